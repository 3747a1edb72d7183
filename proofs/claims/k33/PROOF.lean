import PyProof.Rows.All
import KE.KNestM
import KE.KSortTup
import KE.KSortKey
import KE.KIsAll
import KE.KLam
import KE.KItem
import OpenK.KOwn
import OpenK.KRaise
import KE.KDictSum
import KE.KRevIter
import KE.KRevSl
import PyProof.StrLawsTight
import PyProof.Rows.StrItems
import KE.KPairComp
import KE.KItemsList
import PySem.Challenge.RW_fairbench_k33_benches_of_ways
set_option Elab.async false
set_option linter.all false
set_option maxRecDepth 100000
set_option maxHeartbeats 4000000
noncomputable section
abbrev ip:=List (List Int×Int)
abbrev jc:=List (PySem.Addr×PySem.Obj)
abbrev pW:=List (Int×Option Rat)
abbrev K8:=List (Int×List Int)
abbrev bD:=List Int
abbrev dW:=List PySem.Value
abbrev kX:=PySem.Value→PySem.Shared→Prop
abbrev g7:=List PySem.Str
abbrev fV:=Option PySem.Value
theorem dQ {α:Type} {a:α} {l:List α}:(a::l)[0]?=some a:=rfl
theorem eS:type_of% @Option.bind_eq_some_iff:=@Option.bind_eq_some_iff
theorem fe {α:Type} {a:α} {l:List α} {i:Nat}:(a::l)[i+1]?=l[i]?:=rfl
theorem cC {α β:Type} {a:α} {f:α→Option β}:(some a).bind f=f a:=rfl
theorem gT {α β:Type} {a:α} {f:α→β}:(some a).map f=some (f a):=rfl
theorem de:type_of% @PySem.wpAny_bind:=@PySem.wpAny_bind
theorem nE:type_of% @PySem.Heap.get?_push_of_some:=@PySem.Heap.get?_push_of_some
theorem pv:type_of% @Option.map_eq_some_iff:=@Option.map_eq_some_iff
theorem bR:type_of% @if_pos:=@if_pos
theorem bS:type_of% @if_neg:=@if_neg
theorem dX:type_of% @List.length_map:=@List.length_map
theorem h9:type_of% @List.mem_cons_of_mem:=@List.mem_cons_of_mem
theorem hI:type_of% @List.mem_cons_self:=@List.mem_cons_self
theorem cN:type_of% @Nat.le_refl:=@Nat.le_refl
theorem dR:type_of% @PySem.Heap.lt_size:=@PySem.Heap.lt_size
theorem fP:type_of% @PySem.W.mg_of:=@PySem.W.mg_of
theorem iO:type_of% @List.size_toArray:=@List.size_toArray
theorem cU:type_of% @PySem.wpAny_pure:=@PySem.wpAny_pure
theorem kR:type_of% @List.mem_append_right:=@List.mem_append_right
theorem gy:type_of% @List.map_cons:=@List.map_cons
theorem gB:type_of% @List.mem_cons:=@List.mem_cons
theorem jY:type_of% @Nat.lt_of_lt_of_le:=@Nat.lt_of_lt_of_le
theorem jZ:type_of% @Bool.false_ne_true:=@Bool.false_ne_true
theorem pw:type_of% @List.getD_eq_getElem?_getD:=@List.getD_eq_getElem?_getD
theorem nH:type_of% @List.getElem?_eq_getElem:=@List.getElem?_eq_getElem
theorem lO:type_of% @PySem.Heap.get?_push_size:=@PySem.Heap.get?_push_size
theorem lP {α:Type} {x a:α} {l:List α}:(x::l).set 0 a=a::l:=rfl
theorem lQ {α:Type} {x a:α} {l:List α} {i:Nat}:(x::l).set (i+1) a=x::l.set i a:=rfl
theorem j3:type_of% @List.mem_filter:=@List.mem_filter
theorem kj:type_of% @Option.some.inj:=@Option.some.inj
theorem iP:type_of% @Nat.ne_of_lt:=@Nat.ne_of_lt
theorem nz:type_of% @Int.lt_of_lt_of_le:=@Int.lt_of_lt_of_le
theorem km:type_of% @decide_eq_true:=@decide_eq_true
theorem nI:type_of% @List.getElem?_map:=@List.getElem?_map
theorem mB:type_of% @decide_eq_false:=@decide_eq_false
theorem ko:type_of% @List.map_map:=@List.map_map
theorem u0:type_of% @List.getElem?_eq_some_iff:=@List.getElem?_eq_some_iff
theorem kU:type_of% @Int.le_of_lt:=@Int.le_of_lt
theorem hJ:type_of% @congrArg:=@congrArg
theorem lR:type_of% @List.mem_map:=@List.mem_map
theorem sG:type_of% @Int.lt_of_le_of_lt:=@Int.lt_of_le_of_lt
theorem mC:type_of% @List.map_nil:=@List.map_nil
theorem qF:type_of% @Bool.and_eq_true:=@Bool.and_eq_true
theorem j4:type_of% @PySem.wpAny_mono:=@PySem.wpAny_mono
theorem uo:type_of% @PySem.W.mg_none_of:=@PySem.W.mg_none_of
theorem uq:type_of% @List.length_append:=@List.length_append
theorem iq:type_of% @if_true:=@if_true
theorem xo:type_of% @List.getElem?_set_ne:=@List.getElem?_set_ne
theorem sI:type_of% @List.mem_append:=@List.mem_append
theorem sJ:type_of% @List.find?_cons:=@List.find?_cons
theorem pX:type_of% @List.all_cons:=@List.all_cons
theorem mD:type_of% @PySem.sizeLine_eq:=@PySem.sizeLine_eq
theorem ur:type_of% @PySem.W.kia_one:=@PySem.W.kia_one
theorem uv:type_of% @List.append_nil:=@List.append_nil
theorem xq:type_of% @Bool.false_eq_true:=@Bool.false_eq_true
theorem u3:type_of% @List.lookup_cons:=@List.lookup_cons
theorem qG:type_of% @Nat.le_trans:=@Nat.le_trans
theorem Ap:type_of% @List.getElem?_set_self:=@List.getElem?_set_self
theorem pY:type_of% @Nat.zero_le:=@Nat.zero_le
theorem xr:type_of% @List.length_cons:=@List.length_cons
theorem yL:type_of% @of_decide_eq_true:=@of_decide_eq_true
theorem mE:type_of% @if_false:=@if_false
theorem Aq:type_of% @Array.length_toList:=@Array.length_toList
theorem Cj:type_of% @Rat.intCast_le_intCast:=@Rat.intCast_le_intCast
theorem u5:type_of% @Nat.lt_irrefl:=@Nat.lt_irrefl
theorem uw:type_of% @PySem.wpAny_holding:=@PySem.wpAny_holding
theorem yM:type_of% @Option.getD_some:=@Option.getD_some
theorem yN:type_of% @List.not_mem_nil:=@List.not_mem_nil
theorem qH:type_of% @beq_iff_eq:=@beq_iff_eq
theorem xt:type_of% @List.mem_range:=@List.mem_range
theorem FJ:type_of% @List.getElem?_append_right:=@List.getElem?_append_right
theorem yO:type_of% @Rat.intCast_mul:=@Rat.intCast_mul
open PySem.W (instObj methodObj lookIn plainGet isFn plainGet_of makesIn emptyDict makes_of hasDictIn plainOver keepIn methodCall_KW kitx_list kitx_dict callWith_K cellsFrom_some fnOf codeIn oi_run typeIn subIn kitCls excIn nsIn mg_of mg_none_of km_in_of km_tabs_of)
variable {ks us vs:List PySem.Value} {q qual x:PySem.Str} {ct oc pm u:PySem.Value} {C a b f:PySem.Addr} {P:PySem.Program} {w:PySem.World} {h h':PySem.Heap} {i k n t':Nat} {e tg:PySem.Expr} {N:List PySem.Str} {c j:Int} {M:PySem.Model} {A:PySem.Around} {E Q:PySem.Value→PySem.Shared→Prop} {s:PySem.Shared} {pins:List (PySem.Addr×PySem.Obj)} {eU p2 pos pos' px:PySem.Pos} {op:PySem.CmpOp} {es:List (bD×bD)} {body:List PySem.Stmt} {p:Array Nat} {ex fp:List PySem.Addr} {pl:PySem.Sem Bool} {mg:PySem.Str→Option PySem.Value} {fd:PySem.FuncData} {hs ps:ip} {scope:PySem.Scope} {params:PySem.Arguments} {an od:Option PySem.Addr} {HC:Array (Option PySem.Value)} {ns:bD} {ms:List Bool} {XP:(PySem.Str→Option PySem.Value)→PySem.Heap→Prop} {YP:PySem.World→PySem.Heap→Prop} {fi:List Nat} {κ:PyProof.Rows.SortKind} {W:Array Nat→Prop} {ts:List bD} {rest rows:pW} {L:Option Rat}
namespace L2
open PySem
def inClass(s:Stmt)(j:Nat):Stmt:=match s with
  |.ClassDef _ _ _ body _ _ _ _ _ _ _=>body.getD j (.Pass ⟨0,0,0,0⟩)
  |_=>.Pass ⟨0,0,0,0⟩
def bA(s:Stmt):Arguments:=match s with
  |.FunctionDef _ a _ _ _ _ _ _ _ _=>a
  |_=>{ posonlyargs:=[],args:=[],vararg:=none,kwonlyargs:=[],kw_defaults:=[],kwarg:=none,defaults:=[] }
def bf(s:Stmt):List Stmt:=match s with
  |.FunctionDef _ _ b _ _ _ _ _ _ _=>b
  |_=>[]
def ah(s:Stmt):Scope:=match s with
  |.FunctionDef _ _ _ _ _ _ sc _ _ _=>sc
  |_=>{ kind:=.function,names:=[],isGenerator:=false,isCoroutine:=false }
end L2
namespace HH
open PySem PySem.W L2
def qE(i:Nat):Stmt:=PySem.Challenge.pw_fairbench_k33_benches_of_ways.main.body.getD i (.Pass ⟨0,0,0,0⟩)
abbrev sH(x:String)(t:Nat):Value:=.str (Str.ofString x) t
abbrev rH(a:Nat):Value:=.ref a
abbrev jH(i:Int)(t:Nat):Value:=.int i t
def eH(P:Params)(x:String)(t:Nat)(v:Value):DictEntry:=⟨PyData.keyHash P (Str.ofString x),.str (Str.ofString x) t,v⟩
def tH(l:Array Value):Obj:={ cls:=.type "tuple",data:=.seq l }
def cH(l:Array Value):Obj:={ cls:=.type "code",data:=.fields l }
def dH(l:Array DictEntry)(n:Nat):Obj:={ cls:=.type "dict",data:=.dict l n }
def fH(x q:String)(s:Stmt)(m:String)(t c:Nat):Obj:={ cls:=.type "function",data:=.func { name:=x,qualname:=q,params:=bA s,body:=.stmts (bf s),scope:=ah s,globals:=3,closure:=[],defaults:=.none,kwdefaults:=.none,pyModule:=.str (Str.ofString m) t,code:=.ref c } }
def KH:Params→PySem.W.Frag:=fun P=>(nat_lit 2,{ cls:=.none,data:=.dict #[] }) ::
(nat_lit 3,dH #[eH P "__name__" 165 (sH "law_fairbench_k33_benches_of_ways" 600),eH P "__doc__" 166 .none,eH P "__package__" 167 .none,eH P "__loader__" 168 (.builtin "__main__.__loader__#opaque"),eH P "__spec__" 169 .none,eH P "__annotations__" 170 (rH 6),eH P "__builtins__" 171 (rH 4),eH P "__file__" 173 (sH "/claim/cut.py" 172),eH P "__cached__" 174 .none,eH P "BenchError" 206 (rH 24),eH P "NoCount" 222 (rH 37),eH P "NoName" 238 (rH 49),eH P "NoHeap" 254 (rH 61),eH P "NoPlaces" 270 (rH 73),eH P "NoLists" 286 (rH 85),eH P "NoRoll" 302 (rH 97),eH P "NoBallot" 318 (rH 109),eH P "NoWay" 334 (rH 121),eH P "lowest" 345 (rH 130),eH P "added" 353 (rH 137),eH P "less" 361 (rH 144),eH P "common_divisor" 370 (rH 151),eH P "SIXTIETHS" 380 (rH 152),eH P "worth" 386 (rH 157),eH P "in_common" 392 (rH 162),eH P "Way" 443 (rH 193),eH P "Most" 465 (rH 212),eH P "Turns" 491 (rH 231),eH P "Loads" 517 (rH 250),eH P "loads_behind" 523 (rH 257),eH P "ballots_naming" 529 (rH 262),eH P "names_of" 535 (rH 267),eH P "unseated" 541 (rH 272),eH P "next_turn" 554 (rH 279),eH P "next_load" 566 (rH 286),eH P "comes_ahead" 574 (rH 293),eH P "load_of_name" 588 (rH 300),eH P "load_of_heap" 599 (rH 307),eH P "_law_cell_at" 609 (rH 314),eH P "_law_mixed" 618 (rH 321),eH P "_law_set" 624 (rH 326),eH P "_law_heaps" 630 (rH 331),eH P "_law_same" 639 (rH 338),eH P "_law_kinds" 647 (rH 345),eH P "_law_way" 654 (rH 352),eH P "_law_refused" 666 (rH 359),eH P "law" 672 (rH 364)] 47) ::
(nat_lit 15,tH #[.type "ValueError"]) ::
(nat_lit 22,tH #[]) ::
(nat_lit 23,dH #[eH P "__module__" 196 (sH "fairbench.errors" 187),eH P "__firstlineno__" 200 (jH 2 199),eH P "__static_attributes__" 201 (rH 22),eH P "__weakref__" 203 (rH 25),eH P "__doc__" 204 .none] 3) ::
(nat_lit 24,{ cls:=.type "type",data:=.cls { name:="BenchError",bases:=[.type "ValueError"],mro:=[rH 24,.type "ValueError",.type "Exception",.type "BaseException",.type "object"],ns:=23,qualname:="BenchError",subclasses:=[rH 37,rH 49,rH 61,rH 73,rH 85,rH 97,rH 109,rH 121] },slots:=#[some (rH 15),none,some (sH "BenchError" 189),some (sH "BenchError" 197),some (.builtin "ValueError.__new__"),some (.bool true)] }) ::
(nat_lit 25,{ cls:=.type "getset_descriptor",data:=.fields #[sH "__weakref__" 202,rH 24,.builtin "ExceptionGroup.__weakref__",.none] }) ::
(nat_lit 28,tH #[rH 24]) ::
(nat_lit 35,tH #[]) ::
(nat_lit 36,dH #[eH P "__module__" 214 (sH "fairbench.errors" 187),eH P "__firstlineno__" 218 (jH 4 217),eH P "__static_attributes__" 219 (rH 35),eH P "__doc__" 220 .none] 2) ::
(nat_lit 37,{ cls:=.type "type",data:=.cls { name:="NoCount",bases:=[rH 24],mro:=[rH 37,rH 24,.type "ValueError",.type "Exception",.type "BaseException",.type "object"],ns:=36,qualname:="NoCount" },slots:=#[some (rH 28),none,some (sH "NoCount" 207),some (sH "NoCount" 215),some (.builtin "ValueError.__new__"),some (.bool true)] }) ::
(nat_lit 40,tH #[rH 24]) ::
(nat_lit 47,tH #[]) ::
(nat_lit 48,dH #[eH P "__module__" 230 (sH "fairbench.errors" 187),eH P "__firstlineno__" 234 (jH 6 233),eH P "__static_attributes__" 235 (rH 47),eH P "__doc__" 236 .none] 2) ::
(nat_lit 49,{ cls:=.type "type",data:=.cls { name:="NoName",bases:=[rH 24],mro:=[rH 49,rH 24,.type "ValueError",.type "Exception",.type "BaseException",.type "object"],ns:=48,qualname:="NoName" },slots:=#[some (rH 40),none,some (sH "NoName" 223),some (sH "NoName" 231),some (.builtin "ValueError.__new__"),some (.bool true)] }) ::
(nat_lit 52,tH #[rH 24]) ::
(nat_lit 59,tH #[]) ::
(nat_lit 60,dH #[eH P "__module__" 246 (sH "fairbench.errors" 187),eH P "__firstlineno__" 250 (jH 8 249),eH P "__static_attributes__" 251 (rH 59),eH P "__doc__" 252 .none] 2) ::
(nat_lit 61,{ cls:=.type "type",data:=.cls { name:="NoHeap",bases:=[rH 24],mro:=[rH 61,rH 24,.type "ValueError",.type "Exception",.type "BaseException",.type "object"],ns:=60,qualname:="NoHeap" },slots:=#[some (rH 52),none,some (sH "NoHeap" 239),some (sH "NoHeap" 247),some (.builtin "ValueError.__new__"),some (.bool true)] }) ::
(nat_lit 64,tH #[rH 24]) ::
(nat_lit 71,tH #[]) ::
(nat_lit 72,dH #[eH P "__module__" 262 (sH "fairbench.errors" 187),eH P "__firstlineno__" 266 (jH 10 265),eH P "__static_attributes__" 267 (rH 71),eH P "__doc__" 268 .none] 2) ::
(nat_lit 73,{ cls:=.type "type",data:=.cls { name:="NoPlaces",bases:=[rH 24],mro:=[rH 73,rH 24,.type "ValueError",.type "Exception",.type "BaseException",.type "object"],ns:=72,qualname:="NoPlaces" },slots:=#[some (rH 64),none,some (sH "NoPlaces" 255),some (sH "NoPlaces" 263),some (.builtin "ValueError.__new__"),some (.bool true)] }) ::
(nat_lit 76,tH #[rH 24]) ::
(nat_lit 83,tH #[]) ::
(nat_lit 84,dH #[eH P "__module__" 278 (sH "fairbench.errors" 187),eH P "__firstlineno__" 282 (jH 12 281),eH P "__static_attributes__" 283 (rH 83),eH P "__doc__" 284 .none] 2) ::
(nat_lit 85,{ cls:=.type "type",data:=.cls { name:="NoLists",bases:=[rH 24],mro:=[rH 85,rH 24,.type "ValueError",.type "Exception",.type "BaseException",.type "object"],ns:=84,qualname:="NoLists" },slots:=#[some (rH 76),none,some (sH "NoLists" 271),some (sH "NoLists" 279),some (.builtin "ValueError.__new__"),some (.bool true)] }) ::
(nat_lit 88,tH #[rH 24]) ::
(nat_lit 95,tH #[]) ::
(nat_lit 96,dH #[eH P "__module__" 294 (sH "fairbench.errors" 187),eH P "__firstlineno__" 298 (jH 14 297),eH P "__static_attributes__" 299 (rH 95),eH P "__doc__" 300 .none] 2) ::
(nat_lit 97,{ cls:=.type "type",data:=.cls { name:="NoRoll",bases:=[rH 24],mro:=[rH 97,rH 24,.type "ValueError",.type "Exception",.type "BaseException",.type "object"],ns:=96,qualname:="NoRoll" },slots:=#[some (rH 88),none,some (sH "NoRoll" 287),some (sH "NoRoll" 295),some (.builtin "ValueError.__new__"),some (.bool true)] }) ::
(nat_lit 100,tH #[rH 24]) ::
(nat_lit 107,tH #[]) ::
(nat_lit 108,dH #[eH P "__module__" 310 (sH "fairbench.errors" 187),eH P "__firstlineno__" 314 (jH 16 313),eH P "__static_attributes__" 315 (rH 107),eH P "__doc__" 316 .none] 2) ::
(nat_lit 109,{ cls:=.type "type",data:=.cls { name:="NoBallot",bases:=[rH 24],mro:=[rH 109,rH 24,.type "ValueError",.type "Exception",.type "BaseException",.type "object"],ns:=108,qualname:="NoBallot" },slots:=#[some (rH 100),none,some (sH "NoBallot" 303),some (sH "NoBallot" 311),some (.builtin "ValueError.__new__"),some (.bool true)] }) ::
(nat_lit 112,tH #[rH 24]) ::
(nat_lit 119,tH #[]) ::
(nat_lit 120,dH #[eH P "__module__" 326 (sH "fairbench.errors" 187),eH P "__firstlineno__" 330 (jH 18 329),eH P "__static_attributes__" 331 (rH 119),eH P "__doc__" 332 .none] 2) ::
(nat_lit 121,{ cls:=.type "type",data:=.cls { name:="NoWay",bases:=[rH 24],mro:=[rH 121,rH 24,.type "ValueError",.type "Exception",.type "BaseException",.type "object"],ns:=120,qualname:="NoWay" },slots:=#[some (rH 112),none,some (sH "NoWay" 319),some (sH "NoWay" 327),some (.builtin "ValueError.__new__"),some (.bool true)] }) ::
(nat_lit 124,tH #[]) ::
(nat_lit 126,tH #[sH "top" 340,sH "bottom" 341,sH "divisor" 342]) ::
(nat_lit 127,tH #[]) ::
(nat_lit 129,cH #[sH "lowest" 337,sH "lowest" 338,sH "/claim/cut.py" 339,jH 21 0,jH 2 0,jH 0 0,jH 0 0,jH 3 0,rH 124,.bool true,jH 181 0,rH 125,.none,rH 126,rH 127,rH 128,jH 343 0,jH 21 0,sH "/claim/cut.py" 344]) ::
(nat_lit 130,fH "lowest" "lowest" (qE 11) "fairbench.shares" 335 129) ::
(nat_lit 131,tH #[]) ::
(nat_lit 133,tH #[sH "one" 349,sH "two" 350]) ::
(nat_lit 134,tH #[]) ::
(nat_lit 136,cH #[sH "added" 346,sH "added" 347,sH "/claim/cut.py" 348,jH 24 0,jH 2 0,jH 0 0,jH 0 0,jH 3 0,rH 131,.bool true,jH 181 0,rH 132,.none,rH 133,rH 134,rH 135,jH 351 0,jH 24 0,sH "/claim/cut.py" 352]) ::
(nat_lit 137,fH "added" "added" (qE 12) "fairbench.shares" 335 136) ::
(nat_lit 138,tH #[]) ::
(nat_lit 140,tH #[sH "one" 357,sH "two" 358]) ::
(nat_lit 141,tH #[]) ::
(nat_lit 143,cH #[sH "less" 354,sH "less" 355,sH "/claim/cut.py" 356,jH 26 0,jH 2 0,jH 0 0,jH 0 0,jH 3 0,rH 138,.bool true,jH 181 0,rH 139,.none,rH 140,rH 141,rH 142,jH 359 0,jH 26 0,sH "/claim/cut.py" 360]) ::
(nat_lit 144,fH "less" "less" (qE 13) "fairbench.shares" 335 143) ::
(nat_lit 145,tH #[]) ::
(nat_lit 147,tH #[sH "one" 365,sH "two" 366,sH "rest" 367]) ::
(nat_lit 148,tH #[]) ::
(nat_lit 150,cH #[sH "common_divisor" 362,sH "common_divisor" 363,sH "/claim/cut.py" 364,jH 28 0,jH 2 0,jH 0 0,jH 0 0,jH 3 0,rH 145,.bool true,jH 181 0,rH 146,.none,rH 147,rH 148,rH 149,jH 368 0,jH 28 0,sH "/claim/cut.py" 369]) ::
(nat_lit 151,fH "common_divisor" "common_divisor" (qE 14) "fairbench.shares" 335 150) ::
(nat_lit 152,tH #[jH 0 373,jH 60 374,jH 90 375,jH 110 376,jH 125 377,jH 137 378,jH 147 379]) ::
(nat_lit 153,tH #[]) ::
(nat_lit 156,cH #[sH "worth" 381,sH "worth" 382,sH "/claim/cut.py" 383,jH 36 0,jH 2 0,jH 0 0,jH 0 0,jH 3 0,rH 153,.bool true,jH 181 0,rH 154,.none,.none,.none,rH 155,jH 384 0,jH 36 0,sH "/claim/cut.py" 385]) ::
(nat_lit 157,fH "worth" "worth" (qE 17) "fairbench.worth" 371 156) ::
(nat_lit 158,tH #[]) ::
(nat_lit 161,cH #[sH "in_common" 387,sH "in_common" 388,sH "/claim/cut.py" 389,jH 38 0,jH 2 0,jH 0 0,jH 0 0,jH 3 0,rH 158,.bool true,jH 181 0,rH 159,.none,.none,.none,rH 160,jH 390 0,jH 38 0,sH "/claim/cut.py" 391]) ::
(nat_lit 162,fH "in_common" "in_common" (qE 18) "fairbench.worth" 371 161) ::
(nat_lit 170,tH #[]) ::
(nat_lit 172,tH #[sH "self" 410,sH "count" 411,sH "heaps" 412]) ::
(nat_lit 173,tH #[]) ::
(nat_lit 175,cH #[sH "order" 407,sH "Way.order" 408,sH "/claim/cut.py" 409,jH 43 0,jH 3 0,jH 0 0,jH 0 0,jH 3 0,rH 170,.bool true,jH 181 0,rH 171,.none,rH 172,rH 173,rH 174,jH 413 0,jH 43 0,sH "/claim/cut.py" 414]) ::
(nat_lit 176,fH "order" "Way.order" (inClass (qE 20) 0) "fairbench.ways" 393 175) ::
(nat_lit 177,tH #[]) ::
(nat_lit 179,tH #[sH "self" 419,sH "count" 420,sH "heaps" 421,sH "places" 422]) ::
(nat_lit 180,tH #[]) ::
(nat_lit 182,cH #[sH "seated" 416,sH "Way.seated" 417,sH "/claim/cut.py" 418,jH 46 0,jH 4 0,jH 0 0,jH 0 0,jH 3 0,rH 177,.bool true,jH 181 0,rH 178,.none,rH 179,rH 180,rH 181,jH 423 0,jH 46 0,sH "/claim/cut.py" 424]) ::
(nat_lit 183,fH "seated" "Way.seated" (inClass (qE 20) 1) "fairbench.ways" 393 182) ::
(nat_lit 184,tH #[]) ::
(nat_lit 186,tH #[sH "self" 429,sH "count" 430,sH "heaps" 431,sH "places" 432]) ::
(nat_lit 187,tH #[]) ::
(nat_lit 189,cH #[sH "bench" 426,sH "Way.bench" 427,sH "/claim/cut.py" 428,jH 51 0,jH 4 0,jH 0 0,jH 0 0,jH 3 0,rH 184,.bool true,jH 181 0,rH 185,.none,rH 186,rH 187,rH 188,jH 433 0,jH 51 0,sH "/claim/cut.py" 434]) ::
(nat_lit 190,fH "bench" "Way.bench" (inClass (qE 20) 2) "fairbench.ways" 393 189) ::
(nat_lit 191,tH #[]) ::
(nat_lit 192,dH #[eH P "__module__" 402 (sH "fairbench.ways" 393),eH P "__firstlineno__" 406 (jH 41 405),eH P "order" 415 (rH 176),eH P "seated" 425 (rH 183),eH P "bench" 435 (rH 190),eH P "__static_attributes__" 436 (rH 191),eH P "__dict__" 438 (rH 194),eH P "__weakref__" 440 (rH 195),eH P "__doc__" 441 .none] 4) ::
(nat_lit 193,{ cls:=.type "type",data:=.cls { name:="Way",bases:=[.type "object"],mro:=[rH 193,.type "object"],ns:=192,qualname:="Way",subclasses:=[rH 212,rH 231,rH 250] },slots:=#[none,none,some (sH "Way" 395),some (sH "Way" 403),some (.builtin "object.__new__"),some (.bool true)] }) ::
(nat_lit 194,{ cls:=.type "getset_descriptor",data:=.fields #[sH "__dict__" 437,rH 193,.builtin "function.__dict__",.builtin "function.__dict__#set"] }) ::
(nat_lit 195,{ cls:=.type "getset_descriptor",data:=.fields #[sH "__weakref__" 439,rH 193,.builtin "ExceptionGroup.__weakref__",.none] }) ::
(nat_lit 198,tH #[rH 193]) ::
(nat_lit 205,tH #[]) ::
(nat_lit 208,cH #[sH "order" 456,sH "Most.order" 457,sH "/claim/cut.py" 458,jH 55 0,jH 3 0,jH 0 0,jH 0 0,jH 3 0,rH 205,.bool true,jH 181 0,rH 206,.none,.none,.none,rH 207,jH 459 0,jH 55 0,sH "/claim/cut.py" 460]) ::
(nat_lit 209,fH "order" "Most.order" (inClass (qE 21) 0) "fairbench.ways" 393 208) ::
(nat_lit 210,tH #[]) ::
(nat_lit 211,dH #[eH P "__module__" 451 (sH "fairbench.ways" 393),eH P "__firstlineno__" 455 (jH 53 454),eH P "order" 461 (rH 209),eH P "__static_attributes__" 462 (rH 210),eH P "__doc__" 463 .none] 2) ::
(nat_lit 212,{ cls:=.type "type",data:=.cls { name:="Most",bases:=[rH 193],mro:=[rH 212,rH 193,.type "object"],ns:=211,qualname:="Most" },slots:=#[some (rH 198),none,some (sH "Most" 444),some (sH "Most" 452),some (.builtin "object.__new__"),some (.bool true)] }) ::
(nat_lit 215,tH #[rH 193]) ::
(nat_lit 222,tH #[]) ::
(nat_lit 224,tH #[sH "self" 481,sH "count" 482,sH "heaps" 483,sH "rows" 484]) ::
(nat_lit 225,tH #[]) ::
(nat_lit 227,cH #[sH "order" 478,sH "Turns.order" 479,sH "/claim/cut.py" 480,jH 60 0,jH 3 0,jH 0 0,jH 0 0,jH 3 0,rH 222,.bool true,jH 181 0,rH 223,.none,rH 224,rH 225,rH 226,jH 485 0,jH 60 0,sH "/claim/cut.py" 486]) ::
(nat_lit 228,fH "order" "Turns.order" (inClass (qE 22) 0) "fairbench.ways" 393 227) ::
(nat_lit 229,tH #[]) ::
(nat_lit 230,dH #[eH P "__module__" 473 (sH "fairbench.ways" 393),eH P "__firstlineno__" 477 (jH 58 476),eH P "order" 487 (rH 228),eH P "__static_attributes__" 488 (rH 229),eH P "__doc__" 489 .none] 2) ::
(nat_lit 231,{ cls:=.type "type",data:=.cls { name:="Turns",bases:=[rH 193],mro:=[rH 231,rH 193,.type "object"],ns:=230,qualname:="Turns" },slots:=#[some (rH 215),none,some (sH "Turns" 466),some (sH "Turns" 474),some (.builtin "object.__new__"),some (.bool true)] }) ::
(nat_lit 234,tH #[rH 193]) ::
(nat_lit 241,tH #[]) ::
(nat_lit 243,tH #[sH "self" 507,sH "count" 508,sH "heaps" 509,sH "rows" 510]) ::
(nat_lit 244,tH #[]) ::
(nat_lit 246,cH #[sH "order" 504,sH "Loads.order" 505,sH "/claim/cut.py" 506,jH 67 0,jH 3 0,jH 0 0,jH 0 0,jH 3 0,rH 241,.bool true,jH 181 0,rH 242,.none,rH 243,rH 244,rH 245,jH 511 0,jH 67 0,sH "/claim/cut.py" 512]) ::
(nat_lit 247,fH "order" "Loads.order" (inClass (qE 23) 0) "fairbench.ways" 393 246) ::
(nat_lit 248,tH #[]) ::
(nat_lit 249,dH #[eH P "__module__" 499 (sH "fairbench.ways" 393),eH P "__firstlineno__" 503 (jH 65 502),eH P "order" 513 (rH 247),eH P "__static_attributes__" 514 (rH 248),eH P "__doc__" 515 .none] 2) ::
(nat_lit 250,{ cls:=.type "type",data:=.cls { name:="Loads",bases:=[rH 193],mro:=[rH 250,rH 193,.type "object"],ns:=249,qualname:="Loads" },slots:=#[some (rH 234),none,some (sH "Loads" 492),some (sH "Loads" 500),some (.builtin "object.__new__"),some (.bool true)] }) ::
(nat_lit 253,tH #[]) ::
(nat_lit 256,cH #[sH "loads_behind" 518,sH "loads_behind" 519,sH "/claim/cut.py" 520,jH 72 0,jH 3 0,jH 0 0,jH 0 0,jH 3 0,rH 253,.bool true,jH 181 0,rH 254,.none,.none,.none,rH 255,jH 521 0,jH 72 0,sH "/claim/cut.py" 522]) ::
(nat_lit 257,fH "loads_behind" "loads_behind" (qE 24) "fairbench.ways" 393 256) ::
(nat_lit 258,tH #[]) ::
(nat_lit 261,cH #[sH "ballots_naming" 524,sH "ballots_naming" 525,sH "/claim/cut.py" 526,jH 77 0,jH 2 0,jH 0 0,jH 0 0,jH 3 0,rH 258,.bool true,jH 181 0,rH 259,.none,.none,.none,rH 260,jH 527 0,jH 77 0,sH "/claim/cut.py" 528]) ::
(nat_lit 262,fH "ballots_naming" "ballots_naming" (qE 25) "fairbench.ways" 393 261) ::
(nat_lit 263,tH #[]) ::
(nat_lit 266,cH #[sH "names_of" 530,sH "names_of" 531,sH "/claim/cut.py" 532,jH 79 0,jH 1 0,jH 0 0,jH 0 0,jH 3 0,rH 263,.bool true,jH 181 0,rH 264,.none,.none,.none,rH 265,jH 533 0,jH 79 0,sH "/claim/cut.py" 534]) ::
(nat_lit 267,fH "names_of" "names_of" (qE 26) "fairbench.ways" 393 266) ::
(nat_lit 268,tH #[]) ::
(nat_lit 271,cH #[sH "unseated" 536,sH "unseated" 537,sH "/claim/cut.py" 538,jH 81 0,jH 2 0,jH 0 0,jH 0 0,jH 3 0,rH 268,.bool true,jH 181 0,rH 269,.none,.none,.none,rH 270,jH 539 0,jH 81 0,sH "/claim/cut.py" 540]) ::
(nat_lit 272,fH "unseated" "unseated" (qE 27) "fairbench.ways" 393 271) ::
(nat_lit 273,tH #[]) ::
(nat_lit 275,tH #[sH "count" 545,sH "heaps" 546,sH "rows" 547,sH "before" 548,sH "best" 549,sH "name" 550,sH "growth" 551]) ::
(nat_lit 276,tH #[]) ::
(nat_lit 278,cH #[sH "next_turn" 542,sH "next_turn" 543,sH "/claim/cut.py" 544,jH 83 0,jH 3 0,jH 0 0,jH 0 0,jH 3 0,rH 273,.bool true,jH 181 0,rH 274,.none,rH 275,rH 276,rH 277,jH 552 0,jH 83 0,sH "/claim/cut.py" 553]) ::
(nat_lit 279,fH "next_turn" "next_turn" (qE 28) "fairbench.ways" 393 278) ::
(nat_lit 280,tH #[]) ::
(nat_lit 282,tH #[sH "count" 558,sH "heaps" 559,sH "rows" 560,sH "best" 561,sH "name" 562,sH "load" 563]) ::
(nat_lit 283,tH #[]) ::
(nat_lit 285,cH #[sH "next_load" 555,sH "next_load" 556,sH "/claim/cut.py" 557,jH 91 0,jH 3 0,jH 0 0,jH 0 0,jH 3 0,rH 280,.bool true,jH 181 0,rH 281,.none,rH 282,rH 283,rH 284,jH 564 0,jH 91 0,sH "/claim/cut.py" 565]) ::
(nat_lit 286,fH "next_load" "next_load" (qE 29) "fairbench.ways" 393 285) ::
(nat_lit 287,tH #[]) ::
(nat_lit 289,tH #[sH "one" 570,sH "two" 571]) ::
(nat_lit 290,tH #[]) ::
(nat_lit 292,cH #[sH "comes_ahead" 567,sH "comes_ahead" 568,sH "/claim/cut.py" 569,jH 98 0,jH 2 0,jH 0 0,jH 0 0,jH 3 0,rH 287,.bool true,jH 181 0,rH 288,.none,rH 289,rH 290,rH 291,jH 572 0,jH 98 0,sH "/claim/cut.py" 573]) ::
(nat_lit 293,fH "comes_ahead" "comes_ahead" (qE 30) "fairbench.ways" 393 292) ::
(nat_lit 294,tH #[]) ::
(nat_lit 296,tH #[sH "heaps" 578,sH "rows" 579,sH "name" 580,sH "many_in_all" 581,sH "together" 582,sH "names" 583,sH "many" 584,sH "load" 585]) ::
(nat_lit 297,tH #[]) ::
(nat_lit 299,cH #[sH "load_of_name" 575,sH "load_of_name" 576,sH "/claim/cut.py" 577,jH 102 0,jH 3 0,jH 0 0,jH 0 0,jH 3 0,rH 294,.bool true,jH 181 0,rH 295,.none,rH 296,rH 297,rH 298,jH 586 0,jH 102 0,sH "/claim/cut.py" 587]) ::
(nat_lit 300,fH "load_of_name" "load_of_name" (qE 31) "fairbench.ways" 393 299) ::
(nat_lit 301,tH #[]) ::
(nat_lit 303,tH #[sH "names" 592,sH "rows" 593,sH "load" 594,sH "name" 595,sH "brought" 596]) ::
(nat_lit 304,tH #[]) ::
(nat_lit 306,cH #[sH "load_of_heap" 589,sH "load_of_heap" 590,sH "/claim/cut.py" 591,jH 112 0,jH 2 0,jH 0 0,jH 0 0,jH 3 0,rH 301,.bool true,jH 181 0,rH 302,.none,rH 303,rH 304,rH 305,jH 597 0,jH 112 0,sH "/claim/cut.py" 598]) ::
(nat_lit 307,fH "load_of_heap" "load_of_heap" (qE 32) "fairbench.ways" 393 306) ::
(nat_lit 308,tH #[]) ::
(nat_lit 310,tH #[sH "_law_script" 605,sH "_law_k" 606]) ::
(nat_lit 311,tH #[]) ::
(nat_lit 313,cH #[sH "_law_cell_at" 602,sH "_law_cell_at" 603,sH "/claim/cut.py" 604,jH 119 0,jH 2 0,jH 0 0,jH 0 0,jH 3 0,rH 308,.bool true,jH 181 0,rH 309,.none,rH 310,rH 311,rH 312,jH 607 0,jH 119 0,sH "/claim/cut.py" 608]) ::
(nat_lit 314,fH "_law_cell_at" "_law_cell_at" (qE 34) "law_fairbench_k33_benches_of_ways" 600 313) ::
(nat_lit 315,tH #[]) ::
(nat_lit 317,tH #[sH "_law_cell" 613,sH "_law_place" 614,sH "_law_number" 615]) ::
(nat_lit 318,tH #[]) ::
(nat_lit 320,cH #[sH "_law_mixed" 610,sH "_law_mixed" 611,sH "/claim/cut.py" 612,jH 123 0,jH 2 0,jH 0 0,jH 0 0,jH 3 0,rH 315,.bool true,jH 181 0,rH 316,.none,rH 317,rH 318,rH 319,jH 616 0,jH 123 0,sH "/claim/cut.py" 617]) ::
(nat_lit 321,fH "_law_mixed" "_law_mixed" (qE 35) "law_fairbench_k33_benches_of_ways" 600 320) ::
(nat_lit 322,tH #[]) ::
(nat_lit 325,cH #[sH "_law_set" 619,sH "_law_set" 620,sH "/claim/cut.py" 621,jH 127 0,jH 2 0,jH 0 0,jH 0 0,jH 3 0,rH 322,.bool true,jH 181 0,rH 323,.none,.none,.none,rH 324,jH 622 0,jH 127 0,sH "/claim/cut.py" 623]) ::
(nat_lit 326,fH "_law_set" "_law_set" (qE 36) "law_fairbench_k33_benches_of_ways" 600 325) ::
(nat_lit 327,tH #[]) ::
(nat_lit 330,cH #[sH "_law_heaps" 625,sH "_law_heaps" 626,sH "/claim/cut.py" 627,jH 129 0,jH 4 0,jH 0 0,jH 0 0,jH 3 0,rH 327,.bool true,jH 181 0,rH 328,.none,.none,.none,rH 329,jH 628 0,jH 129 0,sH "/claim/cut.py" 629]) ::
(nat_lit 331,fH "_law_heaps" "_law_heaps" (qE 37) "law_fairbench_k33_benches_of_ways" 600 330) ::
(nat_lit 332,tH #[]) ::
(nat_lit 334,tH #[sH "_law_found" 634,sH "_law_due" 635,sH "_law_k" 636]) ::
(nat_lit 335,tH #[]) ::
(nat_lit 337,cH #[sH "_law_same" 631,sH "_law_same" 632,sH "/claim/cut.py" 633,jH 145 0,jH 2 0,jH 0 0,jH 0 0,jH 3 0,rH 332,.bool true,jH 181 0,rH 333,.none,rH 334,rH 335,rH 336,jH 637 0,jH 145 0,sH "/claim/cut.py" 638]) ::
(nat_lit 338,fH "_law_same" "_law_same" (qE 38) "law_fairbench_k33_benches_of_ways" 600 337) ::
(nat_lit 339,tH #[]) ::
(nat_lit 341,tH #[sH "_law_e" 643,sH "_law_found" 644]) ::
(nat_lit 342,tH #[]) ::
(nat_lit 344,cH #[sH "_law_kinds" 640,sH "_law_kinds" 641,sH "/claim/cut.py" 642,jH 162 0,jH 1 0,jH 0 0,jH 0 0,jH 3 0,rH 339,.bool true,jH 181 0,rH 340,.none,rH 341,rH 342,rH 343,jH 645 0,jH 162 0,sH "/claim/cut.py" 646]) ::
(nat_lit 345,fH "_law_kinds" "_law_kinds" (qE 39) "law_fairbench_k33_benches_of_ways" 600 344) ::
(nat_lit 346,tH #[]) ::
(nat_lit 348,tH #[sH "_law_kind" 651]) ::
(nat_lit 349,tH #[]) ::
(nat_lit 351,cH #[sH "_law_way" 648,sH "_law_way" 649,sH "/claim/cut.py" 650,jH 183 0,jH 1 0,jH 0 0,jH 0 0,jH 3 0,rH 346,.bool true,jH 181 0,rH 347,.none,rH 348,rH 349,rH 350,jH 652 0,jH 183 0,sH "/claim/cut.py" 653]) ::
(nat_lit 352,fH "_law_way" "_law_way" (qE 40) "law_fairbench_k33_benches_of_ways" 600 351) ::
(nat_lit 353,tH #[]) ::
(nat_lit 355,tH #[sH "_law_kind" 658,sH "_law_count" 659,sH "_law_heaps_here" 660,sH "_law_places" 661,sH "_law_caught" 662,sH "_law_e" 663]) ::
(nat_lit 356,tH #[]) ::
(nat_lit 358,cH #[sH "_law_refused" 655,sH "_law_refused" 656,sH "/claim/cut.py" 657,jH 189 0,jH 4 0,jH 0 0,jH 0 0,jH 3 0,rH 353,.bool true,jH 181 0,rH 354,.none,rH 355,rH 356,rH 357,jH 664 0,jH 189 0,sH "/claim/cut.py" 665]) ::
(nat_lit 359,fH "_law_refused" "_law_refused" (qE 41) "law_fairbench_k33_benches_of_ways" 600 358) ::
(nat_lit 360,tH #[]) ::
(nat_lit 363,cH #[sH "law" 667,sH "law" 668,sH "/claim/cut.py" 669,jH 199 0,jH 1 0,jH 0 0,jH 0 0,jH 3 0,rH 360,.bool true,jH 181 0,rH 361,.none,.none,.none,rH 362,jH 670 0,jH 199 0,sH "/claim/cut.py" 671]) ::
(nat_lit 364,fH "law" "law" (qE 42) "law_fairbench_k33_benches_of_ways" 600 363)::[]
def K9:List Addr:=[2,3,15,22,23,24,25,28,35,36,37,40,47,48,49,52,59,60,61,64,71,72,73,76,83,84,85,88,95,96,97,100,107,108,109,112,119,120,121,124,126,127,129,130,131,133,134,136,137,138,140,141,143,144,145,147,148,150,151,152,153,156,157,158,161,162,170,172,173,175,176,177,179,180,182,183,184,186,187,189,190,191,192,193,194,195,198,205,208,209,210,211,212,215,222,224,225,227,228,229,230,231,234,241,243,244,246,247,248,249,250,253,256,257,258,261,262,263,266,267,268,271,272,273,275,276,278,279,280,282,283,285,286,287,289,290,292,293,294,296,297,299,300,301,303,304,306,307,308,310,311,313,314,315,317,318,320,321,322,325,326,327,330,331,332,334,335,337,338,339,341,342,344,345,346,348,349,351,352,353,355,356,358,359,360,363,364]
def qv:Program:={ PySem.Challenge.pw_fairbench_k33_benches_of_ways with main:={ PySem.Challenge.pw_fairbench_k33_benches_of_ways.main with body:=(PySem.Challenge.pw_fairbench_k33_benches_of_ways.main.body.zipIdx.filter fun x=>!([0,10,15,19,33].contains x.2)).map (·.1) } }
theorem yP:∀P,K9=(KH P).map (·.1):=fun _=>by kernel_rfl
def zE(w:World):Option Shared:=openEnds treeTable PySem.Challenge.rw_fairbench_k33_benches_of_ways.row.prog w 7492
def zS(s:Shared):=openSeen qv [] (importedModules PySem.Challenge.rw_fairbench_k33_benches_of_ways.row.prog.main.body) (fun s=>xlAt qv [] s&&recOk (RowW.records PySem.Challenge.rw_fairbench_k33_benches_of_ways.row.toRowW) s) true s
theorem RA:∀w,(zE w).map (fun s=>(zS s).1)=some (openGood qv []).1:=by intro w;kernel_rfl
theorem RB:∀w,(zE w).map (fun s=>((zS s).2.1,(zS s).2.2.1,(zS s).2.2.2.1))=some ((openGood qv []).2.1,(openGood qv []).2.2.1,(openGood qv []).2.2.2.1):=by intro w;kernel_rfl
theorem RC:∀w,(zE w).map (fun s=>(zS s).2.2.2.2)=some (openGood qv []).2.2.2.2:=by intro w;kernel_rfl
theorem RD:∀w,(zE w).map (kmHook KH K9 yP [206]).obs=some ((kmHook KH K9 yP [206]).val w):=by intro w;kernel_rfl
theorem RG:LeftO PySem.Challenge.rw_fairbench_k33_benches_of_ways.row.prog qv [] (fun s=>xlAt qv [] s&&recOk (RowW.records PySem.Challenge.rw_fairbench_k33_benches_of_ways.row.toRowW) s) (kmHook KH K9 yP [206]).obs (kmHook KH K9 yP [206]).val 7492:=by
  intro w;have h1:=RA w;have h2:=RB w;have h3:=RC w;have h4:=RD w;unfold zE at h1 h2 h3 h4;unfold zS at h1 h2 h3;cases h:openEnds treeTable PySem.Challenge.rw_fairbench_k33_benches_of_ways.row.prog w 7492 with
  |none=>rw[h] at h1;cases h1
  |some s=>rw[h] at h1 h2 h3 h4;have La:=kj h2;exact hJ some (Prod.ext (Prod.ext (kj h1) (Prod.ext (hJ (·.1) La) (Prod.ext (hJ (·.2.1) La) (Prod.ext (hJ (·.2.2) La) (kj h3))))) (kj h4))
end HH
namespace L2
open PySem PySem.Spec PyProof.Rows
abbrev Key:=Sum Int Str
def xX:Key→Value→Bool
  |.inl k,v=>Value.isInt k v
  |.inr x,v=>Value.isStrOf x v
def V9(w:World):Key→Int
  |.inl k=>hashInt k
  |.inr x=>hashStr w x
theorem eD:∀{k:Key} {v:Value},xX k v=true→(∃i t,k=Sum.inl i∧v=Value.int i t)∨(∃x t,k=Sum.inr x∧v=Value.str x t)
  |.inl i,v,h=>by obtain⟨t,e⟩:=Value.isInt_shape (k:=i) (v:=v) h;exact .inl ⟨i,t,rfl,e⟩
  |.inr x,v,h=>by obtain⟨t,e⟩:=Value.isStrOf_shape (x:=x) (v:=v) h;exact .inr ⟨x,t,rfl,e⟩
theorem FK(i:Int)(t:Tok):xX (.inl i) (.int i t)=true:=by simp[xX,Value.isInt]
theorem FL(x:Str)(t:Tok):xX (.inr x) (.str x t)=true:=by simp[xX,Value.isStrOf]
theorem Ox(a b:Int):decide ((Sum.inl a:Key)=Sum.inl b)=(a==b):=by
  by_cases e:a=b
  ·subst e;simp
  ·have h:¬ (Sum.inl a:Key)=Sum.inl b:=fun q=>e (Sum.inl.inj q);rw[mB h];exact(beq_eq_false_iff_ne.mpr e).symm
theorem Oy(a b:Str):decide ((Sum.inr a:Key)=Sum.inr b)=decide (a=b):=by
  by_cases e:a=b
  ·subst e;simp
  ·have h:¬ (Sum.inr a:Key)=Sum.inr b:=fun q=>e (Sum.inr.inj q);rw[mB h,mB e]
theorem Oz(a:Int)(b:Str):decide ((Sum.inl a:Key)=Sum.inr b)=false:=mB (fun q=>nomatch q)
theorem OB(a:Str)(b:Int):decide ((Sum.inr a:Key)=Sum.inl b)=false:=mB (fun q=>nomatch q)
def eE(prog:Program)(w:World):PySem.KeyKind prog w Key where
  is:=xX
  hash:=V9 w
  inj:=fun v a b ha hb=>by
    rcases eD ha with⟨i,t,rfl,rfl⟩|⟨x,t,rfl,rfl⟩
    · rcases eD hb with⟨j,u,rfl,e⟩|⟨y,u,rfl,e⟩
      ·injection e with e1 _;rw[e1]
      ·exact nomatch e
    · rcases eD hb with⟨j,u,rfl,e⟩|⟨y,u,rfl,e⟩
      ·exact nomatch e
      ·injection e with e1 _;rw[e1]
  byValue:=fun k v h=>by rcases eD h with⟨i,t,rfl,rfl⟩|⟨x,t,rfl,rfl⟩<;>rfl
  pyHash:=fun hv h=>by
    rcases eD hv with⟨i,t,rfl,rfl⟩|⟨x,t,rfl,rfl⟩
    ·exact wpAny_pyHash_int h
    ·exact wpAny_pyHash_str h
  eqBool:=fun hu hv h=>by
    rcases eD hu with⟨i,t,rfl,rfl⟩|⟨x,t,rfl,rfl⟩
    · rcases eD hv with⟨j,u,rfl,rfl⟩|⟨y,u,rfl,rfl⟩
      ·rw[Ox] at h;exact wpAny_eqBool_int h
      ·rw[Oz] at h;exact SeqAt.EqAt.int_str i t y u _ _ _ _ h
    · rcases eD hv with⟨j,u,rfl,rfl⟩|⟨y,u,rfl,rfl⟩
      ·rw[OB] at h;exact SeqAt.EqAt.str_int x t j u _ _ _ _ h
      ·rw[Oy] at h;exact wpAny_eqBool_str h
  «strs»:=fun k x t v h=>by
    rcases eD h with⟨i,u,rfl,e⟩|⟨y,u,rfl,e⟩
    ·exact nomatch e
    ·injection e with e1 _;subst e1;cases v<;>rfl
theorem Ar(prog:Program)(w:World)(i:Int)(t:Tok):(eE prog w).is (.inl i) (.int i t)=true:=FK i t
theorem As(prog:Program)(w:World)(x:Str)(t:Tok):(eE prog w).is (.inr x) (.str x t)=true:=FL x t
inductive V where
  |non|bl (b:Bool)|int (i:Int)|str (x:Str)|HD (b:Array UInt8)|Rh (b:UInt64)|ref (a:Addr)|ty (n:String)
  deriving DecidableEq
def RelV:V→Value→Prop
  |.non,u=>u=Value.none
  |.bl b,u=>u=Value.bool b
  |.int i,u=>∃t,u=Value.int i t
  |.str x,u=>∃t,u=Value.str x t
  |.HD b,u=>∃t,u=Value.bytes b t
  |.Rh b,u=>∃t,u=Value.float b t
  |.ref a,u=>u=Value.ref a
  |.ty n,u=>u=Value.type n
abbrev Vals:List V→dW→Prop:=Paired RelV
theorem Vals.length{xs:List V}(r:Vals xs us):xs.length=us.length:=Paired.length r
theorem Vals.get:∀{xs:List V} {us:dW} {i:Nat} {x:V},Vals xs us→xs[i]?=some x→∃u,us[i]?=some u∧RelV x u
  |_,_,_,_,.nil,e=>by simp at e
  |_,_,0,_,.cons r _,e=>by simp at e;subst e;exact⟨_,rfl,r⟩
  |_,_,i+1,x,.cons _ t,e=>by obtain⟨u,h1,h2⟩:=Vals.get (i:=i) (x:=x) t (by simpa using e);exact⟨u,by simpa using h1,h2⟩
theorem Vals.set{x:V}(r:RelV x u):∀{xs:List V} {us:dW} (i:Nat),Vals xs us→Vals (xs.set i x) (us.set i u)
  |_,_,_,.nil=>.nil
  |_,_,0,.cons _ t=>.cons r t
  |_,_,i+1,.cons q t=>.cons q (Vals.set r i t)
theorem Vals.append:∀{xs ys:List V} {us ws:dW},Vals xs us→Vals ys ws→Vals (xs++ys) (us++ws)
  |_,_,_,_,.nil,s=>s
  |_,_,_,_,.cons r t,s=>.cons r (Vals.append t s)
theorem Vals.take:∀{xs:List V} {us:dW} (n:Nat),Vals xs us→Vals (xs.take n) (us.take n)
  |_,_,0,_=>.nil
  |_,_,_+1,.nil=>.nil
  |_,_,n+1,.cons r t=>.cons r (Vals.take n t)
theorem Vals.drop:∀{xs:List V} {us:dW} (n:Nat),Vals xs us→Vals (xs.drop n) (us.drop n)
  |_,_,0,r=>r
  |_,_,_+1,.nil=>.nil
  |_,_,n+1,.cons _ t=>Vals.drop n t
def pA:Option V→fV→Prop
  |some v,some u=>RelV v u
  |none,none=>True
  |_,_=>False
def KV{κ:Type}:List (κ×V)→List (κ×Value)→Prop:=Paired fun(p:κ×V) (q:κ×Value)=>p.1=q.1∧RelV p.2 q.2
def kV:Key→V
  |.inl i=>.int i
  |.inr x=>.str x
inductive HO where
  /-- a list -/
  |lst (xs:List V)
  /-- a tuple (never changes) -/
  |tup (xs:List V)
  /-- a dict whose keys are ints and texts;one whose keys are tuples of ints and texts (the empty one is both) -/
  |dK (aW:List (Key×V))|dT (aW:List (List Key×V))
  /-- a set of ints: its members,its size -/
  |set (S:Int→Bool) (n:Nat)
  /-- an instance of the class at C,its dict at dx,its attributes -/
  |ins (C dx:Addr) (fs:List (Str×V))
  /-- the dict of the instance at x -/
  |own (x:Addr)
  /-- the dict of an exception -/
  |xd (fs:List (Str×V))
  /-- a bound method,f of x -/
  |met (f x:Addr)
  /-- a range object lo,lo+1,.. below hi -/
  |U3 (lo hi:Int)
  /-- a thing that is known to the object (the script;a dict while a loop walks it): read,never written while it is so -/
  |pM (o:Obj) (u:HO)
  /-- a code object's table -/
  |yQ (ps:Array Value)
  /-- a code record,its name -/
  |Cg (q:Str)
  /-- any other thing,by what is true of its one object (a def of ab2 own: adJ a S n:=HO.ext fun h=>..) -/
  |ext (φ:Heap→Prop)
abbrev Hp:=Addr→Option HO
def upd(H:Hp)(a:Addr)(o:HO):Hp:=fun b=>if b=a then some o else H b
theorem aI{H:Hp}{o:HO}:upd H a o a=some o:=by unfold upd;rw[bR rfl]
theorem ay{H:Hp}{o:HO}(h:b≠a):upd H a o b=H b:=by unfold upd;rw[bS h]
theorem u6{H:Hp}{o u:HO}(h:H a=some o)(h':H b=some u)(d:o≠u):a≠b:=by intro e;subst e;rw[h] at h';exact d (kj h')
theorem bp{H:Hp}{o:HO}(h:H a=some o)(h':H b=none):a≠b:=by intro e;subst e;rw[h] at h';cases h'
section
variable (P:Program) (w:World)
def bU(H:Hp)(h:Heap)(a:Addr):HO→Prop
  |.lst xs=>xs.length≤sizeLine∧∃(its:dW) (n:Nat),Vals xs its∧h.get? a=some { cls:=.type "list",data:=.seq its.toArray n }
  |.tup xs=>xs.length≤sizeLine∧∃its:dW,Vals xs its∧IsTup h a its.toArray
  |.dK aW=>aW.length≤sizeLine∧(a==sysModules)=false∧∃vs,KV aW vs∧h.DictOf (eE P w) a vs
  |.dT aW=>aW.length≤sizeLine∧(a==sysModules)=false∧∃xs:List (List Key×Addr×Value),
      Paired (fun(p:List Key×V) (q:List Key×Addr×Value)=>p.1=q.1∧H q.2.1=some (.tup (p.1.map kV))∧RelV p.2 q.2.2) aW xs ∧
      ∃o es ep,h.get? a=some o∧o.ExactDict∧o.data=.dict es ep∧es.toList=xs.map (entryOfKey (tupleKind (eE P w)))∧(xs.map (·.1)).Nodup
  |.set S n=>h.SetOf (intKind P w) a S n
  |.ins C dx fs=>H dx=some (.own a)∧fs.length≤1000∧dx≠a∧h.get? a=some (instObj C dx) ∧
      ∃mA,h.Ns1 dx mA∧(∀f,pA (fs.lookup f) (mA f))∧PySem.Within mA (fs.map (·.1))
  |.own _=>∃o,h.get? a=some o
  |.xd fs=>∃mA,h.Ns1 a mA∧∀f,pA (fs.lookup f) (mA f)
  |.U3 lo hi=>∃t u v,h.get? a=some { cls:=.type "range",data:=.fields #[.int lo t,.int hi u,.int 1 v] }
  |.pM o u=>h.get? a=some o∧bU H h a u
  |.yQ ps=>∃(q:Str) (qs:Array Value),ps=#[.str q 0]∧h.get? a=some { cls:=.none,data:=.fields qs }∧TriplesOk qs.toList∧∀pos v,codeAmong pos qs.toList=some v→∃c,v=.ref c∧H c=some (.Cg q)
  |.Cg q=>h.CodeRec (.ref a) q
  |.met f x=>h.get? a=some (methodObj (.ref f) (.ref x))
  |.ext φ=>φ h∧(∃o,h.get? a=some o)∧∀h1 h2:Heap,φ h1→(∀o,h1.get? a=some o→h2.get? a=some o)→φ h2
def oM(H:Hp)(h:Heap):Prop:=∀a o,H a=some o→bU P w H h a o
end
section
variable {P:Program} {w:World} {H H':Hp} {h h':Heap} {a:Addr} {o:HO}
theorem bU.lt(x:bU P w H h a o):a<h.objs.size:=by
  cases o with
  |lst xs=>obtain⟨_,_,_,_,e⟩:=x;exact dR e
  |tup xs=>obtain⟨_,_,_,p⟩:=x;exact p.lt
  |dK aW=>obtain⟨_,_,_,_,o,_,_,e,_⟩:=x;exact dR e
  |dT aW=>obtain⟨_,_,_,_,o,_,_,e,_⟩:=x;exact dR e
  |set S n=>obtain⟨o,_,_,_,e,_⟩:=x;exact dR e
  |ins C dx fs=>obtain⟨_,_,_,e,_⟩:=x;exact dR e
  |own y=>obtain⟨_,e⟩:=x;exact dR e
  |xd fs=>obtain⟨_,⟨_,_,_,e,_⟩,_⟩:=x;exact dR e
  |U3 lo hi=>obtain⟨_,_,_,e⟩:=x;exact dR e
  |pM ob u=>obtain⟨e,_⟩:=x;exact dR e
  |yQ ps=>obtain⟨_,_,_,e,_⟩:=x;exact dR e
  |Cg q=>obtain⟨_,_,_,_,e,g,_⟩:=x;cases e;exact dR g
  |met f y=>exact dR (show h.get? a=some _ from x)
  |ext φ=>obtain⟨_,⟨_,e⟩,_⟩:=x;exact dR e
theorem Paired.HF{α β:Type}{F G:α→β→Prop}:∀{l₁:List α} {l₂:List β},Paired F l₁ l₂→(∀a b,F a b→G a b)→Paired G l₁ l₂
  |_,_,.nil,_=>.nil
  |_,_,.cons r t,f=>.cons (f _ _ r) (Paired.HF t f)
theorem bU.mF(x:bU P w H h a o)(k:∀b u,(b=a∨H b=some (.own a))→h.get? b=some u→h'.get? b=some u)(ho:∀b,H b=some (.own a)→H' b=some (.own a))(ht:∀b xs,H b=some (.tup xs)→H' b=some (.tup xs))(ji:∀b q,H b=some (.Cg q)→H' b=some (.Cg q):=by
      intro b q hb
      first
        |exact hb
        |(rw[ay (bp hb (by assumption))];exact hb)
        |(rw[ay (u6 hb (by assumption) (fun z=>nomatch z))];exact hb)
        |(rw[ay (by rintro rfl;simp_all [Ri])];exact hb)):bU P w H' h' a o:=by
  induction o with
  |lst xs=>obtain⟨z,its,n,r,e⟩:=x;exact⟨z,its,n,r,k _ _ (.inl rfl) e⟩
  |tup xs=>obtain⟨z,its,r,ob,e,c⟩:=x;exact⟨z,its,r,ob,k _ _ (.inl rfl) e,c⟩
  |dK aW=>obtain⟨z,y,vs,r,ob,es,ep,e,c⟩:=x;exact⟨z,y,vs,r,ob,es,ep,k _ _ (.inl rfl) e,c⟩
  |dT aW=>obtain⟨z,y,xs,r,ob,es,ep,e,c⟩:=x;exact⟨z,y,xs,Paired.HF r fun p q z=>⟨z.1,ht _ _ z.2.1,z.2.2⟩,ob,es,ep,k _ _ (.inl rfl) e,c⟩
  |set S n=>obtain⟨ob,es,ep,t,e,c⟩:=x;exact⟨ob,es,ep,t,k _ _ (.inl rfl) e,c⟩
  |ins C dx fs=>obtain⟨d,z,ne,e,mA,⟨od,es,ep,e2,c⟩,r⟩:=x;exact⟨ho _ d,z,ne,k _ _ (.inl rfl) e,mA,⟨od,es,ep,k _ _ (.inr d) e2,c⟩,r⟩
  |own y=>obtain⟨ob,e⟩:=x;exact⟨ob,k _ _ (.inl rfl) e⟩
  |xd fs=>obtain⟨mA,⟨od,es,ep,e,c⟩,r⟩:=x;exact⟨mA,⟨od,es,ep,k _ _ (.inl rfl) e,c⟩,r⟩
  |U3 lo hi=>obtain⟨t,u,v,e⟩:=x;exact⟨t,u,v,k _ _ (.inl rfl) e⟩
  |pM ob u ih=>obtain⟨e,q⟩:=x;exact⟨k _ _ (.inl rfl) e,ih q⟩
  |yQ ps=>obtain⟨q,qs,e0,e,ht,hc⟩:=x;refine⟨q,qs,e0,k a _ (.inl rfl) e,ht,fun pos v hv=>?_⟩;obtain⟨c,e1,hH⟩:=hc pos v hv;exact⟨c,e1,ji _ _ hH⟩
  |Cg q=>obtain⟨c,o2,vs2,t2,e2,g2,r2⟩:=x;cases e2;exact⟨_,o2,vs2,t2,rfl,k _ _ (.inl rfl) g2,r2⟩
  |met f y=>have e:h.get? a=some (methodObj (.ref f) (.ref y)):=x;show h'.get? a=some (methodObj (.ref f) (.ref y));exact k a _ (.inl rfl) e
  |ext φ=>obtain⟨p,⟨o,e⟩,st⟩:=x;exact⟨st _ _ p fun o q=>k _ _ (.inl rfl) q,⟨o,k _ _ (.inl rfl) e⟩,st⟩
theorem oM.lt(x:oM P w H h)(e:H a=some o):a<h.objs.size:=(x a o e).lt
theorem oM.fresh(x:oM P w H h)(e:h.objs.size≤a):H a=none:=by
  cases q:H a with
  |none=>rfl
  |some u=>exact absurd (jY (x.lt q) e) (u5 _)
theorem oM.kept(x:oM P w H h)(k:∀b u,h.get? b=some u→h'.get? b=some u):oM P w H h':=fun a o e =>
  (x a o e).mF (fun b u _ q=>k b u q) (fun _ q=>q) fun _ _ q=>q
theorem oM.laid(x:oM P w H h)(k:∀b u,h.get? b=some u→h'.get? b=some u)(hp:h.objs.size≤a)(new:bU P w (upd H a o) h' a o):oM P w (upd H a o) h':=fun b u e=>by
  have hn:=x.fresh hp;by_cases hb:b=a
  ·subst hb;rw[aI] at e;cases e;exact new
  ·rw[ay hb] at e;exact(x b u e).mF (fun c v _ q=>k c v q) (fun c q=>by rw[ay (bp q hn)];exact q) fun c xs q=>by rw[ay (bp q hn)];exact q
end
def Rd(H:Hp)(a:Addr)(u:HO):Prop:=H a=some u∨∃o,H a=some (.pM o u)
theorem Rd.ok{H:Hp}{u:HO}(r:Rd H a u)(x:oM P w H h):bU P w H h a u:=by
  rcases r with r|⟨o,r⟩
  ·exact x a u r
  ·obtain⟨_,q⟩:=x a _ r;exact q
def Ri:Option HO→Prop
  |some (.lst _)=>True
  |some (.dK _)=>True
  |some (.dT _)=>True
  |some (.set _ _)=>True
  |some (.ins _ _ _)=>True
  |some (.ext _)=>True
  |_=>False
section
variable {P:Program} {w:World} {H:Hp} {h h':Heap} {x e:Addr} {o':HO}
theorem oM.write(ok:oM P w H h)(mu:Ri (H x))(he:e=x∨H e=some (.own x))(k:∀b u,b≠e→h.get? b=some u→h'.get? b=some u)(Rj:∃u,h'.get? e=some u)(new:bU P w (upd H x o') h' x o'):oM P w (upd H x o') h':=fun b u q=>by
  have RH:∀c y,H c=some (.own y)→c≠x:=fun c y r z=>by subst z;rw[r] at mu;exact mu
  have Wa:∀c xs,H c=some (.tup xs)→c≠x:=fun c xs r z=>by subst z;rw[r] at mu;exact mu
  by_cases hb:b=x
  ·subst hb;rw[aI] at q;cases q;exact new
  · rw[ay hb] at q;by_cases OD:b=e
    · have q':H b=some (.own x):=by
        rcases he with z|z
        ·exact absurd (OD.trans z) hb
        ·rw[OD];exact z
      rw[q] at q';cases q';obtain⟨v,hv⟩:=Rj;exact⟨v,by rw[OD];exact hv⟩
    · refine(ok b u q).mF (fun c v hc r=>k c v ?_ r) (fun c r=>by rw[ay (RH c b r)];exact r) fun c xs r=>by rw[ay (Wa c xs r)];exact r
      rcases hc with rfl|hc
      ·exact OD
      · rintro rfl;rcases he with z|z
        ·exact RH c b hc z
        ·rw[hc] at z;cases z;exact hb rfl
end
structure Un (fs ex:List Addr) (H H':Hp) (h h':Heap):Prop where
  keep:∀b o,h.get? b=some o→H b=none→b∉fs→b∉ex→h'.get? b=some o
  slot:∀b o,h.get? b=some o→H b=none→b∈fs→b∉ex→∃sl,h'.get? b=some { o with slots:=sl }
  free:∀b o,h.get? b=some o→H b=none→b∉ex→H' b=none
  there:∀b o,h.get? b=some o→b∉ex→∃o',h'.get? b=some o'
  mG:∀b xs,H b=some (.tup xs)→H' b=some (.tup xs)
  pB:∀b o u,H b=some (.pM o u)→H' b=some (.pM o u)
  pC:∀b ps,H b=some (.yQ ps)→∃more,H' b=some (.yQ (ps++more))
section
variable {fs fs' ex ex':List Addr} {H H1 H2:Hp} {h h1 h2 h':Heap} {a x e:Addr} {o:HO}
theorem Un.any(u:Un fs ex H H1 h h1){ob:Obj}(q:h.get? b=some ob)(n:H b=none)(hx:b∉ex):∃sl,h1.get? b=some { ob with slots:=sl }:=by
  by_cases hb:b∈fs
  ·exact u.slot b ob q n hb hx
  ·exact⟨ob.slots,u.keep b ob q n hb hx⟩
theorem Un.kept(k:∀b u,h.get? b=some u→h'.get? b=some u):Un fs ex H H h h' :=
  ⟨fun b ob q _ _ _=>k b ob q,fun b ob q _ _ _=>⟨ob.slots,k b ob q⟩,fun _ _ _ n _=>n,fun b ob q _=>⟨ob,k b ob q⟩,fun _ _ q=>q,fun _ _ _ q=>q,fun _ ps q=>⟨#[],by rw[q];simp⟩⟩
theorem Un.refl:Un fs ex H H h h:=Un.kept fun _ _ q=>q
theorem Un.laid(k:∀b u,h.get? b=some u→h'.get? b=some u)(hp:h.objs.size≤a)(hn:H a=none):Un fs ex H (upd H a o) h h' where
  keep:=fun b u q _ _ _=>k b u q
  slot:=fun b u q _ _ _=>⟨u.slots,k b u q⟩
  free:=fun b u q n _=>by rw[ay (iP (jY (dR q) hp))];exact n
  there:=fun b u q _=>⟨u,k b u q⟩
  mG:=fun b xs q=>by rw[ay (bp q hn)];exact q
  pB:=fun b u xs q=>by rw[ay (bp q hn)];exact q
  pC:=fun b ps q=>⟨#[],by rw[ay (bp q hn),q];simp⟩
theorem Un.write(mu:Ri (H x))(he:e=x∨H e=some (.own x))(k:∀b u,b≠e→h.get? b=some u→h'.get? b=some u)(Rj:∃u,h'.get? e=some u):Un fs ex H (upd H x o) h h':=by
  have hx:∀b,H b=none→b≠x:=fun b n z=>by subst z;rw[n] at mu;exact mu
  have hb:∀b,H b=none→b≠e:=fun b n z=>by
    subst z;rcases he with r|r
    ·exact hx b n r
    ·rw[n] at r;cases r
  have hm:∀b u,H b=some u→¬ Ri (some u)→b≠x:=fun b u q nm z=>by subst z;rw[q] at mu;exact nm mu
  refine⟨fun b u q n _ _=>k b u (hb b n) q,fun b u q n _ _=>⟨u.slots,k b u (hb b n) q⟩,fun b u q n _=>by rw[ay (hx b n)];exact n,fun b u q _=>?_,
    fun b xs q=>by rw[ay (hm b _ q fun z=>z)];exact q,fun b u xs q=>by rw[ay (hm b _ q fun z=>z)];exact q,fun b ps q=>⟨#[],by rw[ay (hm b _ q fun z=>z),q];simp⟩⟩
  by_cases OD:b=e
  ·subst OD;exact Rj
  ·exact⟨u,k b u OD q⟩
end
def U4(h:Heap)(H:Hp):List Addr:=(List.range h.objs.size).filter fun a=>(H a).isSome
def xu(h:Heap)(H:Hp):Heap:=PySem.W.hideAll h (U4 h H)
theorem FN(h:Heap)(H:Hp):(xu h H).objs.size=h.objs.size:=PySem.W.hideAll_size _ _
theorem HG{H:Hp}{o:Obj}(e:h.get? b=some o)(n:H b=none):(xu h H).get? b=some o :=
  PySem.W.hideAll_get _ e fun hm=>by have q:(H b).isSome=true:=(j3.mp hm).2;rw[n] at q;simp at q
theorem Lr{H:Hp}{o:Obj}(e:(xu h H).get? b=some o):h.get? b=some o∧H b=none:=by
  have e':h.get? b=some o:=PySem.W.of_hideAll (U4 h H) e;refine⟨e',?_⟩;cases q:H b with
  |none=>rfl
  |some x=>have hm:b∈U4 h H:=j3.mpr ⟨xt.mpr (dR e'),by simp[q]⟩;have z:(xu h H).get? b=none:=PySem.W.hideAll_none (U4 h H) hm;rw[z] at e;cases e
structure Mod (K:PySem.W.Frag) (mg:Str→fV) (base:Heap):Prop where
  Nx:K.In base
  glob:base.Ns mainGlobals mg
  blt:∃mb,base.Ns builtinsNs mb∧∀x:Str,x≠"__name__"→mb x=bootBuiltins x
  nolimit:base.NoLimit
structure Cx where
  prog:Program
  w:World
  K:PySem.W.Frag
  mg:Str→fV
  base:Heap
  A:Around
  N:g7
  s₀:Shared
  H₀:Hp
  env:Env
  outer:List Env
  stack:List Env
  ex:List Addr
  fn:Str→Bool
  calm:Bool
  pn:jc
  xe:kX
def nJ(l:List Env):List Addr:=l.filterMap (·.frame)
abbrev Cx.fs(X:Cx):List Addr:=nJ X.outer
def Am(sc:Scope)(x:Str):Prop:=sc.names.lookup x=some .local∨sc.names.lookup x=some .cell∨sc.names.lookup x=some .free
def Loc(sc:Scope)(x:Str):Prop:=sc.names.lookup x=some .local∨sc.names.lookup x=some .cell
def Look(env:Env)(h:Heap)(m:Str→fV)(x:Str)(u:Value):Prop :=
  (env.kindOf x=some .local∧m x=some u)∨((env.kindOf x=some .cell∨env.kindOf x=some .free)∧∃c,env.cells.lookup x=some c∧h.IsCell c (some u))
structure Cx.Ok (X:Cx):Prop where
  mod:Mod X.K X.mg X.base
  kind:X.env.scope.kind=.function
  glob:X.env.globals=mainGlobals
  blt:X.env.builtins=builtinsNs
  above:X.s₀.heap.objs.size≤X.env.locals
  inj:∀x y c,X.env.cells.lookup x=some c→X.env.cells.lookup y=some c→x=y
  has:∀x,(X.env.kindOf x=some .cell∨X.env.kindOf x=some .free)→∃c,X.env.cells.lookup x=some c
  Ny:∀x c,X.fn x=true→X.env.cells.lookup x=some c→X.s₀.heap.objs.size≤c
  hd:X.calm=true→X.A.handled=none
  frames:X.A.frames=some X.stack
  OG:X.stack=X.outer∨(X.stack=X.env::X.outer∧X.env.frame=some X.env.locals)
  RJ:∀b∈X.ex,b≠X.env.locals∧∀x c,X.env.cells.lookup x=some c→c≠b
  bs:∀b o,X.base.get? b=some o→X.s₀.heap.get? b=some o∧X.H₀ b=none
  Lb:X.base.objs.size≤X.s₀.heap.objs.size
  Au:∀b o,X.base.get? b=some o→b∉X.ex
  Ck:∀b∈X.ex,b∉X.fs
  pZ:X.s₀.heap.FunFrames X.base X.outer
  Lc:∀b∈X.fs,X.H₀ b=none
structure Inv (X:Cx) (pins:jc) (σ:List (Option V)) (H:Hp) (s:Shared):Prop where
  ok:X.Ok
  os:s.os=X.s₀.os
  bare:AllBare s.gens
  base:Un X.fs X.ex X.H₀ H X.s₀.heap s.heap
  loc:∃m,s.heap.Ns X.env.locals m∧∀(i:Nat) (x:Str) (v:V),X.N[i]?=some x→σ[i]?=some (some v)→Am X.env.scope x→∃u,RelV v u∧Look X.env s.heap m x u
  cell:∀x c,X.env.cells.lookup x=some c→∃v,s.heap.IsCell c v
  free:H X.env.locals=none
  g8:∀x c,X.env.cells.lookup x=some c→H c=none
  pin:∀p∈X.pn++pins,s.heap.get? p.1=some p.2∧H p.1=none∧p.1≠X.env.locals∧p.1∉X.fs∧∀v,p.2.data≠.cell v
  cf:oM X.prog X.w H s.heap
  len:σ.length=X.N.length
section
variable {X:Cx} {pins:jc} {σ:List (Option V)} {H H':Hp} {s:Shared} {h':Heap}
theorem Cx.Ok.Wb(ok:X.Ok){o:Obj}(e:X.base.get? b=some o):b∉X.fs:=fun hb=>by have:=(ok.pZ.mem hb).1;rw[e] at this;cases this
theorem Inv.bs(I:Inv X pins σ H s):∀b o,X.base.get? b=some o→s.heap.get? b=some o∧H b=none:=fun b o e =>
  ⟨I.base.keep b o (I.ok.bs b o e).1 (I.ok.bs b o e).2 (I.ok.Wb e) (I.ok.Au b o e),I.base.free b o (I.ok.bs b o e).1 (I.ok.bs b o e).2 (I.ok.Au b o e)⟩
theorem Inv.bk(I:Inv X pins σ H s):∀b o,X.base.get? b=some o→s.heap.get? b=some o:=fun b o e=>(I.bs b o e).1
theorem Inv.mod(I:Inv X pins σ H s):Mod X.K X.mg X.base:=I.ok.mod
theorem Inv.qI(I:Inv X pins σ H s):X.K.In s.heap:=I.ok.mod.Nx.keeps I.bk
theorem Inv.lt(I:Inv X pins σ H s):X.env.locals<s.heap.objs.size:=let ⟨_,hn,_⟩:=I.loc;hn.lt
theorem Inv.sz(I:Inv X pins σ H s):X.s₀.heap.objs.size≤s.heap.objs.size:=qG I.ok.above (Nat.le_of_lt I.lt)
theorem Inv.OI(I:Inv X pins σ H s)(h:s.heap.objs.size≤a):a∉X.fs:=fun hb=>by obtain⟨_,o,ho,_⟩:=I.ok.pZ.mem hb;exact absurd (jY (dR ho) (qG I.sz h)) (u5 _)
theorem Inv.HJ(I:Inv X pins σ H s):∀x c,X.env.cells.lookup x=some c→c≠X.env.locals:=fun x c e z=>by obtain⟨v,o,ho,hd⟩:=I.cell x c e;obtain⟨m,⟨o',es,ep,An,Nz,_⟩,_⟩:=I.loc;rw[z,An] at ho;cases ho;rw[Nz] at hd;cases hd
theorem Inv.pZ(I:Inv X pins σ H s):s.heap.FunFrames X.base X.outer:=by
  have all:∀(l:List Env),(∀b∈nJ l,b∈X.fs)→X.s₀.heap.FunFrames X.base l→s.heap.FunFrames X.base l:=by
    intro l;induction l with
    |nil=>intro _ _;trivial
    |cons env r ih=>intro hs hl;obtain⟨hk,⟨L,o,hf,hn,ho,hd⟩,hr⟩:=hl;have hL:L∈X.fs:=hs L (by unfold nJ;rw[List.filterMap_cons,hf];exact hI);obtain⟨sl,e⟩:=I.base.slot L o ho (I.ok.Lc L hL) hL fun z=>I.ok.Ck L z hL;exact⟨hk,⟨L,_,hf,hn,e,hd⟩,ih (fun b hb=>hs b (by unfold nJ;rw[List.filterMap_cons,hf];exact h9 _ hb)) hr⟩
  exact all X.outer (fun _ hb=>hb) I.ok.pZ
theorem Inv.stack(I:Inv X pins σ H s):s.heap.FunFrames X.base X.stack:=by
  rcases I.ok.OG with e|⟨e,hf⟩
  ·rw[e];exact I.pZ
  ·rw[e];obtain⟨m,hn,_⟩:=I.loc;refine .cons (by rw[I.ok.kind];decide) hf hn ?_ I.pZ;exact Heap.get?_none_of_le (qG I.ok.Lb I.ok.above)
theorem Inv.sL(I:Inv X pins σ H s):∀b∈nJ X.stack,b∈X.env.locals::X.fs:=fun b hb=>by
  rcases I.ok.OG with e|⟨e,hf⟩
  ·rw[e] at hb;exact h9 _ hb
  ·rw[e] at hb;unfold nJ at hb;rw[List.filterMap_cons,hf] at hb;exact hb
theorem Inv.uL(I:Inv X pins σ H s):∀b∈nJ X.stack,H b=none:=fun b hb=>by
  rcases gB.mp (I.sL b hb) with e|hb
  ·rw[e];exact I.free
  ·obtain⟨_,o,ho,_⟩:=I.ok.pZ.mem hb;exact I.base.free b o ho (I.ok.Lc b hb) fun z=>I.ok.Ck b z hb
theorem Inv.step{g':Array GenState}{t':Nat}{d':Drawn}{ch:List Addr}(I:Inv X pins σ H s)(Ld:∀b∈ch,(b∈X.ex∨X.s₀.heap.objs.size≤b)∧b≠X.env.locals∧(∀x c,X.env.cells.lookup x=some c→c≠b)∧∀p∈X.pn++pins,p.1≠b)(keep:∀b o,b≠X.env.locals→b∉X.fs→b∉ch→s.heap.get? b=some o→H b=none→h'.get? b=some o)(slot:∀b o,b≠X.env.locals→b∈X.fs→b∉ch→s.heap.get? b=some o→H b=none→∃sl,h'.get? b=some { o with slots:=sl })(free:∀b o,b∉ch→s.heap.get? b=some o→H b=none→H' b=none)(there:∀b o,b∉ch→s.heap.get? b=some o→∃o',h'.get? b=some o')(mG:∀b xs,H b=some (.tup xs)→H' b=some (.tup xs))(pB:∀b o u,H b=some (.pM o u)→H' b=some (.pM o u))(pC:∀b ps,H b=some (.yQ ps)→∃more,H' b=some (.yQ (ps++more)))(ns:∀m,s.heap.Ns X.env.locals m→h'.Ns X.env.locals m)(cf:oM X.prog X.w H' h')(hg:AllBare g'):Inv X pins σ H' { s with heap:=h',gens:=g',drawn:=d',toks:=t' }:=by
  have neL:∀b o,X.s₀.heap.get? b=some o→b≠X.env.locals:=fun b o e=>iP (jY (dR e) I.ok.above);have U5:∀b o,X.s₀.heap.get? b=some o→b∉X.ex→b∉ch:=fun b o e hx hb=>by
    rcases(Ld b hb).1 with z|z
    ·exact hx z
    ·exact absurd (jY (dR e) z) (u5 _)
  have cellK:∀x c,X.env.cells.lookup x=some c→∀v,s.heap.IsCell c v→h'.IsCell c v:=fun x c e v ⟨o,ho,hd⟩=>by
    have RK:c∉ch:=fun z=>(Ld c z).2.2.1 x c e rfl;by_cases hc:c∈X.fs
    ·obtain⟨sl,q⟩:=slot c o (I.HJ x c e) hc RK ho (I.g8 x c e);exact⟨_,q,hd⟩
    ·exact⟨o,keep c o (I.HJ x c e) hc RK ho (I.g8 x c e),hd⟩
  refine⟨I.ok,I.os,hg,⟨fun b o e n hb hx=>?_,fun b o e n hb hx=>?_,fun b o e n hx=>?_,fun b o e hx=>?_,fun b xs e=>mG b xs (I.base.mG b xs e),fun b o xs e=>pB b o xs (I.base.pB b o xs e),fun b ps e=>?_⟩,?_,fun x c e=>?_,?_,fun x c e=>?_,fun p hp=>?_,cf,I.len⟩
  ·exact keep b o (neL b o e) hb (U5 b o e hx) (I.base.keep b o e n hb hx) (I.base.free b o e n hx)
  ·obtain⟨sl,e1⟩:=I.base.slot b o e n hb hx;obtain⟨sl',e2⟩:=slot b _ (neL b o e) hb (U5 b o e hx) e1 (I.base.free b o e n hx);exact⟨sl',e2⟩
  ·obtain⟨o',e1⟩:=I.base.there b o e hx;exact free b o' (U5 b o e hx) e1 (I.base.free b o e n hx)
  ·obtain⟨o',e1⟩:=I.base.there b o e hx;exact there b o' (U5 b o e hx) e1
  ·obtain⟨m1,e1⟩:=I.base.pC b ps e;obtain⟨m2,e2⟩:=pC b _ e1;exact⟨m1++m2,by rw[e2,Array.append_assoc]⟩
  · obtain⟨m,hn,hl⟩:=I.loc;refine⟨m,ns m hn,fun i x v e1 e2 e3=>?_⟩;obtain⟨u,r,l⟩:=hl i x v e1 e2 e3;refine⟨u,r,?_⟩;rcases l with l|⟨k,c,e,z⟩
    ·exact .inl l
    ·exact .inr ⟨k,c,e,cellK x c e _ z⟩
  ·obtain⟨v,z⟩:=I.cell x c e;exact⟨v,cellK x c e v z⟩
  ·obtain⟨m,⟨o,_,_,ho,_⟩,_⟩:=I.loc;exact free _ o (fun z=>(Ld _ z).2.1 rfl) ho I.free
  ·obtain⟨v,o,ho,hd⟩:=I.cell x c e;exact free c o (fun z=>(Ld c z).2.2.1 x c e rfl) ho (I.g8 x c e)
  ·obtain⟨e,n,ne,nf,d⟩:=I.pin p hp;have RK:p.1∉ch:=fun z=>(Ld p.1 z).2.2.2 p hp rfl;exact⟨keep p.1 p.2 ne nf RK e n,free p.1 p.2 RK e n,ne,nf,d⟩
theorem Inv.un(I:Inv X pins σ H s)(u:Un X.fs [] H H' s.heap h')(cf:oM X.prog X.w H' h'):Inv X pins σ H' { s with heap:=h',toks:=t' }:=by
  obtain⟨m,⟨o,es,ep,ho,r⟩,_⟩:=id I.loc;obtain⟨sl,hL⟩:=u.any ho I.free (by simp);exact I.step (g':=s.gens) (d':=s.drawn) (ch:=[]) (fun _ z=>nomatch z) (fun b o _ hb _ e n=>u.keep b o e n hb (by simp)) (fun b o _ hb _ e n=>u.slot b o e n hb (by simp)) (fun b o _ e n=>u.free b o e n (by simp)) (fun b o _ e=>u.there b o e (by simp)) u.mG u.pB u.pC (fun m' hm=>by
    obtain⟨o',U6,U7,An,r'⟩:=hm;rw[ho] at An;cases An;exact⟨_,U6,U7,hL,r'⟩) cf I.bare
theorem Inv.call{g':Array GenState}{d':Drawn}{ch:List Addr}(I:Inv X pins σ H s)(u:Un (nJ X.stack) ch H H' s.heap h')(cf:oM X.prog X.w H' h')(hg:AllBare g')(Ld:∀b∈ch,(b∈X.ex∨X.s₀.heap.objs.size≤b)∧b≠X.env.locals∧(∀x c,X.env.cells.lookup x=some c→c≠b)∧∀p∈X.pn++pins,p.1≠b):Inv X pins σ H' { s with heap:=h',gens:=g',drawn:=d',toks:=t' }:=by
  obtain⟨m,⟨o,es,ep,ho,r⟩,_⟩:=id I.loc;obtain⟨sl,hL⟩:=u.any ho I.free fun z=>(Ld _ z).2.1 rfl;exact I.step (ch:=ch) Ld (fun b o hL hb hc e n=>u.keep b o e n (fun z=>(gB.mp (I.sL b z)).elim hL hb) hc) (fun b o _ _ hc e n=>u.any e n hc) (fun b o hc e n=>u.free b o e n hc) (fun b o hc e=>u.there b o e hc) u.mG u.pB u.pC (fun m' hm=>by
    obtain⟨o',U6,U7,An,r'⟩:=hm;rw[ho] at An;cases An;exact⟨_,U6,U7,hL,r'⟩) cf hg
theorem Inv.turned{it:Addr}(I:Inv X pins σ H s)(k:∀b o,b≠it→s.heap.get? b=some o→h'.get? b=some o)(hn:H it=none)(hL:it≠X.env.locals)(h1:it∈X.ex∨X.s₀.heap.objs.size≤it)(h2:∀x c,X.env.cells.lookup x=some c→c≠it)(h3:∀p∈X.pn++pins,p.1≠it):Inv X pins σ H { s with heap:=h',toks:=t' }:=by
  have nit:∀b u,H b=some u→b≠it:=fun b u e z=>by rw[z,hn] at e;cases e
  refine I.step (g':=s.gens) (d':=s.drawn) (ch:=[it]) (fun b hb=>?_) (fun b o _ _ hc e _=>k b o (fun z=>hc (by simp[z])) e) (fun b o _ _ hc e _=>⟨o.slots,k b o (fun z=>hc (by simp[z])) e⟩) (fun _ _ _ _ n=>n)
    (fun b o hc e=>⟨o,k b o (fun z=>hc (by simp[z])) e⟩) (fun _ _ e=>e) (fun _ _ _ e=>e) (fun b ps e=>⟨#[],by rw[e];simp⟩) (fun m hm=>?_) (fun b u e=>?_) I.bare
  · have e:b=it:=by simpa using hb
    subst e;exact⟨h1,hL,h2,h3⟩
  ·obtain⟨o,es,ep,ho,r⟩:=hm;exact⟨o,es,ep,k _ o (Ne.symm hL) ho,r⟩
  · refine(I.cf b u e).mF (fun c v hc q=>k c v ?_ q) (fun _ q=>q) fun _ _ q=>q;rcases hc with z|z
    ·rw[z];exact nit b u e
    ·exact nit c _ z
theorem Inv.tok(I:Inv X pins σ H s)(t:Nat):Inv X pins σ H { s with toks:=t }:=I.un (h':=s.heap) (t':=t) Un.refl I.cf
theorem Inv.kept(I:Inv X pins σ H s)(k:∀b u,s.heap.get? b=some u→h'.get? b=some u):Inv X pins σ H { s with heap:=h',toks:=t' }:=I.un (Un.kept k) (I.cf.kept k)
theorem Inv.laid{o:HO}(I:Inv X pins σ H s)(k:∀b u,s.heap.get? b=some u→h'.get? b=some u)(hp:s.heap.objs.size≤a)(new:bU X.prog X.w (upd H a o) h' a o):Inv X pins σ (upd H a o) { s with heap:=h',toks:=t' }:=I.un (Un.laid k hp (I.cf.fresh hp)) (I.cf.laid k hp new)
theorem Inv.write{x e:Addr}{o:HO}(I:Inv X pins σ H s)(mu:Ri (H x))(he:e=x∨H e=some (.own x))(k:∀b u,b≠e→s.heap.get? b=some u→h'.get? b=some u)(Rj:∃u,h'.get? e=some u)(new:bU X.prog X.w (upd H x o) h' x o):Inv X pins σ (upd H x o) { s with heap:=h',toks:=t' }:=I.un (Un.write mu he k Rj) (I.cf.write mu he k Rj new)
theorem Inv.yR{NB:jc}(I:Inv X pins σ H s)(h:∀p∈NB,s.heap.get? p.1=some p.2∧H p.1=none∧p.1≠X.env.locals∧p.1∉X.fs∧∀v,p.2.data≠.cell v):Inv X NB σ H s :=
  ⟨I.ok,I.os,I.bare,I.base,I.loc,I.cell,I.free,I.g8,fun p hp=>(sI.mp hp).elim (fun z=>I.pin p (List.mem_append_left _ z)) (h p),I.cf,I.len⟩
theorem u9(hN:N.Nodup){j:Nat}(a:N[i]?=some x)(b:N[j]?=some x):i=j:=by obtain⟨h1,e1⟩:=u0.mp a;obtain⟨h2,e2⟩:=u0.mp b;exact(List.getElem_inj hN).mp (e1.trans e2.symm)
theorem xY{v:V}{Q:Unit→Shared→Prop}(I:Inv X pins σ H s)(hN:X.N.Nodup)(hi:X.N[i]?=some x)(hx:Loc X.env.scope x)(r:RelV v u)(h:∀s',Inv X pins (σ.set i (some v)) H s'→(∃a,Heap.SameBut a s.heap s'.heap∧(a=X.env.locals∨X.env.cells.lookup x=some a))→Q () s')(hf:X.fn x=true∨X.env.scope.names.lookup x=some .local:=by first|exact .inl rfl|exact .inr rfl|assumption):wpAny M A (storeName X.env x u) Q E s:=by
  obtain⟨m,hn,hl⟩:=id I.loc;have HK:(X.env.scope.kind==.class||(X.env.scope.kind==.module&&X.env.locals != X.env.globals))=false:=by rw[I.ok.kind];rfl
  have U8:i<σ.length:=by rw[I.len];exact(u0.mp hi).1
  have HJ:=I.HJ;have tracked:∀{a:Addr} {h':Heap},(∃o,s.heap.get? a=some o∧H a=none)→Heap.SameBut a s.heap h'→oM X.prog X.w H h':=fun {a h'} ha hs b ob e=>by
    obtain⟨_,_,NC⟩:=ha;refine(I.cf b ob e).mF (fun c w' hc q=>(hs.2 c ?_).trans q) (fun _ q=>q) fun _ _ q=>q;rintro rfl;rcases hc with rfl|hc
    ·rw[NC] at e;cases e
    ·rw[NC] at hc;cases hc
  rcases hx with hk|hk
  · refine wpAny_storeName_local hk hn (fun h' OJ hs=>?_) HK;obtain⟨oL,_,_,Rk,_⟩:=id hn;refine h _ ⟨I.ok,I.os,I.bare,⟨fun b o e n hb hx=>?_,fun b o e n hb hx=>?_,I.base.free,fun b o e hx=>?_,I.base.mG,I.base.pB,I.base.pC⟩,⟨_,OJ,fun j y v' e1 e2 e3=>?_⟩,fun y c e=>?_,I.free,I.g8,fun p hp=>?_,tracked ⟨oL,Rk,I.free⟩ hs,by simpa using I.len⟩ ⟨_,hs,.inl rfl⟩
    ·exact(hs.2 b (iP (jY (dR e) I.ok.above))).trans (I.base.keep b o e n hb hx)
    ·obtain⟨sl,e1⟩:=I.base.slot b o e n hb hx;exact⟨sl,(hs.2 b (iP (jY (dR e) I.ok.above))).trans e1⟩
    ·obtain⟨o',e1⟩:=I.base.there b o e hx;exact⟨o',(hs.2 b (iP (jY (dR e) I.ok.above))).trans e1⟩
    · by_cases hj:j=i
      ·subst hj;rw[hi] at e1;cases e1;rw[Ap U8] at e2;cases e2;exact⟨u,r,.inl ⟨hk,by simp⟩⟩
      · rw[xo (Ne.symm hj)] at e2;obtain⟨u',r',q⟩:=hl j y v' e1 e2 e3;refine⟨u',r',?_⟩;rcases q with⟨k,e⟩|⟨k,c,e,z⟩
        ·refine .inl ⟨k,?_⟩;have:y≠x:=fun e=>hj (u9 hN e1 (e▸hi));simp[this,e]
        ·exact .inr ⟨k,c,e,z.sameBut hs (HJ y c e)⟩
    ·obtain⟨w',z⟩:=I.cell y c e;exact⟨w',z.sameBut hs (HJ y c e)⟩
    ·obtain⟨e,n,ne,nf,d⟩:=I.pin p hp;exact⟨(hs.2 p.1 ne).trans e,n,ne,nf,d⟩
  · have Wc:X.fn x=true:=by
      rcases hf with z|z
      ·exact z
      ·rw[z] at hk;cases hk
    obtain⟨c,hc⟩:=I.ok.has x (.inl hk);obtain⟨w',z⟩:=I.cell x c hc;refine wpAny_storeName_cell I.ok.kind hk hc z (fun h' Cm hs=>?_);obtain⟨oc,hoc,Wd⟩:=id z;refine h { s with heap:=h' } ⟨I.ok,I.os,I.bare,⟨fun b o e n hb hx=>?_,fun b o e n hb hx=>?_,I.base.free,fun b o e hx=>?_,I.base.mG,I.base.pB,I.base.pC⟩,⟨m,hn.sameBut hs (Ne.symm (HJ x c hc)),fun j y v' e1 e2 e3=>?_⟩,fun y c' e=>?_,I.free,I.g8,fun p hp=>?_,tracked ⟨oc,hoc,I.g8 x c hc⟩ hs,by simpa using I.len⟩ ⟨c,hs,.inr hc⟩
    ·exact(hs.2 b (iP (jY (dR e) (I.ok.Ny x c Wc hc)))).trans (I.base.keep b o e n hb hx)
    ·obtain⟨sl,e1⟩:=I.base.slot b o e n hb hx;exact⟨sl,(hs.2 b (iP (jY (dR e) (I.ok.Ny x c Wc hc)))).trans e1⟩
    ·obtain⟨o',e1⟩:=I.base.there b o e hx;exact⟨o',(hs.2 b (iP (jY (dR e) (I.ok.Ny x c Wc hc)))).trans e1⟩
    · by_cases hj:j=i
      ·subst hj;rw[hi] at e1;cases e1;rw[Ap U8] at e2;cases e2;exact⟨u,r,.inr ⟨.inl hk,c,hc,Cm⟩⟩
      · rw[xo (Ne.symm hj)] at e2;obtain⟨u',r',q⟩:=hl j y v' e1 e2 e3;refine⟨u',r',?_⟩;rcases q with q|⟨k,c',e,z'⟩
        ·exact .inl q
        ·refine .inr ⟨k,c',e,z'.sameBut hs ?_⟩;rintro rfl;exact hj (u9 hN e1 (I.ok.inj _ _ _ e hc▸hi))
    · by_cases Rl:c'=c
      ·subst Rl;exact⟨_,Cm⟩
      ·obtain⟨w2,z2⟩:=I.cell y c' e;exact⟨w2,z2.sameBut hs Rl⟩
    ·obtain⟨e,n,ne,nf,d⟩:=I.pin p hp;refine⟨(hs.2 p.1 ?_).trans e,n,ne,nf,d⟩;intro q;rw[q,hoc] at e;have q':oc=p.2:=kj e;exact d w' (by rw[←q'];exact Wd)
theorem vd{v:V}{Q:Unit→Shared→Prop}(I:Inv X pins σ H s)(hN:X.N.Nodup)(hi:X.N[i]?=some x)(hx:Loc X.env.scope x)(r:RelV v u)(h:∀s',Inv X pins (σ.set i (some v)) H s'→Q () s')(hf:X.fn x=true∨X.env.scope.names.lookup x=some .local:=by first|exact .inl rfl|exact .inr rfl|assumption):wpAny M A (storeName X.env x u) Q E s :=
  xY I hN hi hx r (fun s' I' _=>h s' I') hf
theorem Inv.HL{s':Shared}{ch:List Addr}(I:Inv X pins σ H s)(ho:s'.os=s.os)(u:Un (nJ X.stack) ch H H' s.heap s'.heap)(cf:oM X.prog X.w H' s'.heap)(hg:AllBare s'.gens)(Ld:∀b∈ch,(b∈X.ex∨X.s₀.heap.objs.size≤b)∧b≠X.env.locals∧(∀x c,X.env.cells.lookup x=some c→c≠b)∧∀p∈X.pn++pins,p.1≠b):Inv X pins σ H' s':=by
  obtain⟨h',g',d',t',o'⟩:=s';have e:o'=s.os:=ho;subst e;exact I.call (g':=g') (t':=t') (d':=d') u cf hg Ld
end
abbrev XK:=Value→Option Addr→Hp→Prop
abbrev St:=List (Option V)
abbrev VK:=V→Hp→Prop
abbrev TE:=St→Hp→VK→Prop
abbrev TT:=St→Hp→(Bool→Hp→Prop)→Prop
abbrev TA:=St→Hp→(List V→Hp→Prop)→Prop
structure Ends where
  nx:St→Hp→Prop
  rt:VK
  bk:St→Hp→Prop:=fun _ _=>False
  ct:St→Hp→Prop:=fun _ _=>False
abbrev TS:=Ends→St→Hp→Prop
def EP(X:Cx)(pins:jc)(σ:St)(Q:VK)(u:Value)(s':Shared):Prop:=∃v H',Inv X pins σ H' s'∧RelV v u∧Q v H'
def TP(X:Cx)(pins:jc)(σ:St)(Q:Bool→Hp→Prop)(b:Bool)(s':Shared):Prop:=∃H',Inv X pins σ H' s'∧Q b H'
def AP(X:Cx)(pins:jc)(σ:St)(Q:List V→Hp→Prop)(us:dW)(s':Shared):Prop:=∃vs H',Inv X pins σ H' s'∧Vals vs us∧Q vs H'
def SP(X:Cx)(pins:jc)(D:Ends)(f:Flow)(s':Shared):Prop :=
  match f with
  |.next=>∃σ' H',Inv X pins σ' H' s'∧D.nx σ' H'
  |.brk=>∃σ' H',Inv X pins σ' H' s'∧D.bk σ' H'
  |.cont=>∃σ' H',Inv X pins σ' H' s'∧D.ct σ' H'
  |.ret u=>∃v σ' H',Inv X pins σ' H' s'∧RelV v u∧D.rt v H'
def PE(X:Cx)(e:Expr)(t:TE):Prop :=
  ∀(pins:jc) (s:Shared) (σ:St) (H:Hp) (Q:VK),Inv X pins σ H s→t σ H Q→wpAny (model X.prog X.w) X.A (eval e X.env) (EP X pins σ Q) X.xe s
def PT(X:Cx)(e:Expr)(t:TT):Prop :=
  ∀(pins:jc) (s:Shared) (σ:St) (H:Hp) (Q:Bool→Hp→Prop),Inv X pins σ H s→t σ H Q→wpAny (model X.prog X.w) X.A (isTrue e X.env (eval e X.env)) (TP X pins σ Q) X.xe s
def PW(X:Cx)(e:Expr)(t:TT):Prop :=
  ∀(whole:Sem Value) (pins:jc) (s:Shared) (σ:St) (H:Hp) (Q:Bool→Hp→Prop),Inv X pins σ H s→t σ H Q→wpAny (model X.prog X.w) X.A (isTrue e X.env whole) (TP X pins σ Q) X.xe s
theorem PW.pt{X:Cx}{t:TT}(h:PW X e t):PT X e t:=h _
def PA(X:Cx)(es:List Expr)(t:TA):Prop :=
  ∀(pos:Pos) (pins:jc) (s:Shared) (σ:St) (H:Hp) (Q:List V→Hp→Prop),Inv X pins σ H s→t σ H Q→wpAny (model X.prog X.w) X.A (spliced (backTo pos (starEach es X.env))) (AP X pins σ Q) X.xe s
def PS(X:Cx)(st:Stmt)(t:TS):Prop :=
  ∀(pins:jc) (s:Shared) (σ:St) (H:Hp) (D:Ends),Inv X pins σ H s→t D σ H→wpAny (model X.prog X.w) X.A (exec st X.env) (SP X pins D) X.xe s
def xZ(X:Cx)(st:List Stmt)(t:TS):Prop :=
  ∀(pins:jc) (s:Shared) (σ:St) (H:Hp) (D:Ends),Inv X pins σ H s→t D σ H→wpAny (model X.prog X.w) X.A (execs st X.env) (SP X pins D) X.xe s
theorem fW{α:Type}{t:Sem α}{Q Q':α→Shared→Prop}(h:wpAny M A t Q E s)(hQ:∀a s,Q a s→Q' a s):wpAny M A t Q' E s:=j4 h hQ fun _ _ x=>x
section
variable {X:Cx}
theorem bin{a b:Expr}{ta tb:TE}(ha:PE X a ta)(hb:PE X b tb){σ:St}{H:Hp}{R:V→V→Hp→Prop}(I:Inv X pins σ H s)(h:ta σ H fun x H1=>tb σ H1 fun y H2=>R x y H2){α:Type}{Q:α→Shared→Prop}{f:Value→Value→Sem α}(hf:∀v u s2 x y H2,Inv X pins σ H2 s2→RelV x v→RelV y u→R x y H2→wpAny (model X.prog X.w) X.A (f v u) Q X.xe s2):wpAny (model X.prog X.w) X.A (eval a X.env) (fun v s₁=>wpAny (model X.prog X.w) X.A (eval b X.env) (fun u s₂=>wpAny (model X.prog X.w) X.A (f v u) Q X.xe s₂) X.xe s₁) X.xe s:=by
  refine fW (ha pins s σ H _ I h) fun v s1 ⟨x,H1,I1,r1,q1⟩=>?_;refine fW (hb pins s1 σ H1 _ I1 q1) fun u s2 ⟨y,H2,I2,r2,q2⟩=>?_;exact hf v u s2 x y H2 I2 r1 r2 q2
def Wf(i:Nat):TE:=fun σ H Q=>∃v,σ[i]?=some (some v)∧Q v H
def tC(v:V):TE:=fun _ H Q=>Q v H
theorem jj(hN:X.N[i]?=some x)(hv:Am X.env.scope x)(hd:(x==("__debug__":Str))=false:=by decide)(ji:(x==("__classdict__":Str))=false:=by decide):PE X (.Name x pos) (Wf i):=by
  intro pins s σ H Q I h;obtain⟨v,e,h⟩:=h;obtain⟨m,hn,hl⟩:=I.loc;obtain⟨u,r,l⟩:=hl i x v hN e hv;have fin:EP X pins σ Q u s:=⟨v,H,I,r,h⟩
  rcases l with⟨hk,hm⟩|⟨hk,c,hc,D5⟩
  ·exact wpAny_Name (wpAny_loadName_local I.ok.kind hk hn hm fin) hd
  · rcases hk with hk|hk
    ·exact wpAny_Name (wpAny_loadName_cell I.ok.kind hk hc D5 fin) hd
    ·exact wpAny_Name (wpAny_loadName_free I.ok.kind hk hc D5 fin ji) hd
theorem OL{i j pos}:PE X (.Constant (.int i) j pos) (tC (.int i)):=fun _ _ _ H _ I h=>wpAny_Constant_int ⟨.int i,H,I.tok _,⟨_,rfl⟩,h⟩
theorem RL{b j pos}:PE X (.Constant (.bool b) j pos) (tC (.bl b)):=fun _ _ _ H _ I h=>Constant_bool ⟨.bl b,H,I,rfl,h⟩
theorem OO{j pos}:PE X (.Constant .none j pos) (tC .non):=fun _ _ _ H _ I h=>Constant_none ⟨.non,H,I,rfl,h⟩
theorem OQ{x j pos}:PE X (.Constant (.str x) j pos) (tC (.str x)):=fun _ _ _ H _ I h=>Calls.Constant_str ⟨.str x,H,I.tok _,⟨_,rfl⟩,h⟩
def Gl(X:Cx)(x:Str):Prop:=X.env.kindOf x=some .globalImplicit
theorem qJ{σ:St}{H:Hp}(I:Inv X pins σ H s)(hg:Gl X x)(hm:X.mg x=some u)(h:Q u s)(hd:(x==("__debug__":Str))=false:=by decide):wpAny (model X.prog X.w) X.A (eval (.Name x pos) X.env) Q E s :=
  Calls.Name_function_global I.ok.kind hg (Calls.loadGlobal_global (by rw[I.ok.glob];exact I.mod.glob.keeps I.bk) hm h) hd
theorem p6{σ:St}{H:Hp}(I:Inv X pins σ H s)(hg:Gl X x)(hm:X.mg x=none)(hv:bootBuiltins x=some u)(h:Q u s)(hn:x≠"__name__":=by decide)(hd:(x==("__debug__":Str))=false:=by decide):wpAny (model X.prog X.w) X.A (eval (.Name x pos) X.env) Q E s:=by
  obtain⟨mb,h1,h2⟩:=I.mod.blt;exact Calls.Name_function_global I.ok.kind hg (Calls.loadGlobal_builtin (by rw[I.ok.glob];exact I.mod.glob.keeps I.bk) hm (by rw[I.ok.blt];exact h1.keeps I.bk) ((h2 x hn).trans hv) h) hd
theorem yS{v:V}(hg:Gl X x)(hm:X.mg x=some u)(r:RelV v u)(hd:(x==("__debug__":Str))=false:=by decide):PE X (.Name x pos) (tC v) :=
  fun _ _ _ H _ I h=>qJ I hg hm ⟨v,H,I,r,h⟩ hd
theorem D6{v:V}(hg:Gl X x)(hm:X.mg x=none)(hv:bootBuiltins x=some u)(r:RelV v u)(hn:x≠"__name__":=by decide)(hd:(x==("__debug__":Str))=false:=by decide):PE X (.Name x pos) (tC v) :=
  fun _ _ _ H _ I h=>p6 I hg hm hv ⟨v,H,I,r,h⟩ hn hd
variable {a b:Expr} {ta tb:TE} {pos:Pos}
def PC(X:Cx)(op:CmpOp)(a b:Expr)(t:TE):Prop :=
  ∀(pins:jc) (s:Shared) (σ:St) (H:Hp) (Q:VK),Inv X pins σ H s→t σ H Q →
   wpAny (model X.prog X.w) X.A (eval a X.env) (fun v s₁=>wpAny (model X.prog X.w) X.A (eval b X.env) (fun u s₂=>wpAny (model X.prog X.w) X.A (compareOp op v u) (EP X pins σ Q) X.xe s₂) X.xe s₁) X.xe s
theorem HM(b:Expr)(h:op≠.In)(h2:op≠.NotIn):behindInMarks op b=false:=by
  have e1:(op==CmpOp.In)=false:=by cases op<;>first|rfl|exact absurd rfl h
  have e2:(op==CmpOp.NotIn)=false:=by cases op<;>first|rfl|exact absurd rfl h2
  cases b<;>simp[behindInMarks,e1,e2]
def tB(t:TE):TT:=fun σ H Q=>t σ H fun x H1=>∃c,x=.bl c∧Q c H1
theorem Wg{t:TE}(h:PC X op a b t)(h1:behindInMarks op b=false:=by first|exact HM _ (by decide) (by decide)|rfl):PT X (.Compare a [op] [b] pos) (tB t):=by intro pins s σ H Q I hw;refine wpAny_isTrue_Compare1 (fW (h pins s σ H _ I hw) fun v s1 h1=>fW h1 fun u s2 h2=>fW h2 fun c s3 ⟨x,H1,I1,r1,q1⟩=>?_) h1;obtain⟨d,rfl,q⟩:=q1;cases r1;exact wpAny_truthy_bool ⟨H1,I1,q⟩
theorem OS{t:TE}(h:PE X e t)(he:∀whole,isTrue e X.env whole=(do let v ←whole;standAt e.pos;holding [v] (truthy v)):=by intro _;rfl):PT X e (tB t):=by intro pins s σ H Q I hw;refine isTrue_plain (fW (h pins s σ H _ I hw) fun v s1 ⟨x,H1,I1,r1,q1⟩=>?_) (he _);obtain⟨d,rfl,q⟩:=q1;cases r1;exact wpAny_truthy_bool ⟨H1,I1,q⟩
variable {tA tB':TT} {rest:List Expr}
def tOr(t u:TT):TT:=fun σ H Q=>t σ H fun c H1=>if c=true then Q true H1 else u σ H1 Q
def Wh(t:TT):TT:=fun σ H Q=>t σ H fun c H1=>Q (!c) H1
theorem pw_or1(ha:PT X a tA):PW X (.BoolOp .Or [a] pos) tA:=by
  intro wh pins s σ H Q I h;refine isTrue_or (fW (ha pins s σ H Q I h) fun c s1 e=>?_);cases c with
  |false=>exact isTrue_or_nil e
  |true=>exact e
theorem pw_or(ha:PT X a tA)(hb:PW X (.BoolOp .Or (b::rest) pos) tB'):PW X (.BoolOp .Or (a::b::rest) pos) (tOr tA tB'):=by
  intro wh pins s σ H Q I h;refine isTrue_or (fW (ha pins s σ H _ I h) fun c s1 ⟨H1,I1,q1⟩=>?_);cases c with
  |true=>exact⟨H1,I1,q1⟩
  |false=>exact hb wh pins s1 σ H1 Q I1 q1
theorem OU(ha:PT X a tA):PT X (.UnaryOp .Not a pos) (Wh tA):=by intro pins s σ H Q I h;exact isTrue_not (ha pins s σ H (fun c H1=>Q (!c) H1) I h)
def RM(ta tb:TE):TE:=fun σ H Q=>ta σ H fun x H1=>∃c,x=.bl c∧if c=true then tb σ H1 Q else Q (.bl false) H1
def RN(ta:TE):TE:=fun σ H Q=>ta σ H fun x H1=>∃c,x=.bl c∧Q (.bl (!c)) H1
theorem OV{op}{t:TE}(h:PE X a t):PE X (.BoolOp op [a] pos) t:=fun pins s σ H Q I hw=>BoolOp_one (h pins s σ H Q I hw)
theorem OW(ha:PE X a ta)(hb:PE X (.BoolOp .And (b::rest) pos) tb):PE X (.BoolOp .And (a::b::rest) pos) (RM ta tb):=by
  intro pins s σ H Q I h;refine BoolOp_and (fW (ha pins s σ H _ I h) fun v s1 ⟨x,H1,I1,r1,q1⟩=>?_);obtain⟨c,rfl,q1⟩:=q1;cases r1;refine wpAny_truthy_bool ?_;cases c with
  |true=>exact hb pins s1 σ H1 Q I1 q1
  |false=>exact⟨.bl false,H1,I1,rfl,q1⟩
theorem OX(ha:PE X a ta):PE X (.UnaryOp .Not a pos) (RN ta):=by intro pins s σ H Q I h;refine UnaryOp_ (fW (ha pins s σ H _ I h) fun v s1 ⟨x,H1,I1,r1,q1⟩=>?_);obtain⟨c,rfl,q1⟩:=q1;cases r1;exact not_of (wpAny_truthy_bool ⟨.bl (!c),H1,I1,rfl,q1⟩)
end
def jE(K:PySem.W.Frag)(H:Hp)(a:Addr)(xs:List V):Prop :=
  Rd H a (.lst xs) ∨
    ∃(o:Obj) (its:Array Value) (n:Nat),K.lookup a=some o∧o.cls=.type "list"∧o.dict=none∧o.data=.seq its n∧its.size≤sizeLine∧Vals xs its.toList
def j9(K:PySem.W.Frag)(H:Hp)(a:Addr)(xs:List V):Prop :=
  Rd H a (.tup xs) ∨
    ∃(o:Obj) (its:Array Value) (n:Nat),K.lookup a=some o∧o.cls=.type "tuple"∧o.data=.seq its n∧its.size≤sizeLine∧Vals xs its.toList
def Wi:Value→Option V
  |.none=>some .non
  |.bool b=>some (.bl b)
  |.int i _=>some (.int i)
  |.str x _=>some (.str x)
  |.bytes b _=>some (.HD b)
  |.float b _=>some (.Rh b)
  |.ref a=>some (.ref a)
  |.type n=>some (.ty n)
  |_=>none
theorem RelV.abs{x:V}(r:RelV x u):Wi u=some x:=by
  cases x with
  |non=>cases r;rfl
  |bl _=>cases r;rfl
  |int _=>obtain⟨t,rfl⟩:=r;rfl
  |str _=>obtain⟨t,rfl⟩:=r;rfl
  |HD _=>obtain⟨t,rfl⟩:=r;rfl
  |Rh _=>obtain⟨t,rfl⟩:=r;rfl
  |ref _=>cases r;rfl
  |ty _=>cases r;rfl
theorem RelV.inj{x y:V}(r:RelV x u)(q:RelV y u):x=y:=kj (r.abs.symm.trans q.abs)
theorem Vals.inj:∀{xs ys:List V} {us:dW},Vals xs us→Vals ys us→xs=ys
  |_,_,_,.nil,.nil=>rfl
  |_,_,_,.cons r t,.cons r' t'=>by rw[r.inj r',Vals.inj t t']
section
variable {X:Cx} {pins:jc} {σ:St} {H:Hp} {s:Shared} {a:Addr} {xs ys:List V}
theorem jE.of{K:PySem.W.Frag}(h:H a=some (.lst xs)):jE K H a xs:=.inl (.inl h)
theorem j9.of{K:PySem.W.Frag}(h:H a=some (.tup xs)):j9 K H a xs:=.inl (.inl h)
theorem Inv.list(I:Inv X pins σ H s)(h:jE X.K H a xs):∃its:dW,Vals xs its∧PlainL s.heap a its.toArray∧xs.length≤sizeLine:=by
  rcases h with h|⟨o,its,n,hk,hc,hd,hs,hz,r⟩
  ·obtain⟨z,its,n,r,e⟩:=h.ok I.cf;exact⟨its,r,⟨_,n,e,rfl,rfl,rfl⟩,z⟩
  ·refine⟨its.toList,r,⟨o,n,I.qI a o hk,hc,hd,by simpa using hs⟩,?_⟩;have e:=r.length;simp only[Aq] at e;omega
theorem Inv.tuple(I:Inv X pins σ H s)(h:j9 X.K H a xs):∃its:dW,Vals xs its∧IsTup s.heap a its.toArray∧xs.length≤sizeLine:=by
  rcases h with h|⟨o,its,n,hk,hc,hs,hz,r⟩
  ·obtain⟨z,its,r,p⟩:=h.ok I.cf;exact⟨its,r,p,z⟩
  ·refine⟨its.toList,r,⟨o,I.qI a o hk,hc,n,by simpa using hs⟩,?_⟩;have e:=r.length;simp only[Aq] at e;omega
theorem Inv.Av(I:Inv X pins σ H s)(h:jE X.K H a xs)(h':jE X.K H a ys):xs=ys:=by
  obtain⟨its,r,⟨o,n,e,_,_,d⟩,_⟩:=I.list h;obtain⟨its',r',⟨o',n',e',_,_,d'⟩,_⟩:=I.list h';rw[e] at e';cases e';rw[d] at d';injection d' with d1 _;have:its=its':=by simpa using hJ Array.toList d1
  subst this;exact r.inj r'
theorem Inv.FP(I:Inv X pins σ H s)(h:j9 X.K H a xs)(h':j9 X.K H a ys):xs=ys:=by
  obtain⟨its,r,⟨o,e,_,n,d⟩,_⟩:=I.tuple h;obtain⟨its',r',⟨o',e',_,n',d'⟩,_⟩:=I.tuple h';rw[e] at e';cases e';rw[d] at d';injection d' with d1 _;have:its=its':=by simpa using hJ Array.toList d1
  subst this;exact r.inj r'
end
abbrev Cx.ux(X:Cx)(E:kX):Cx:={ X with xe:=E }
abbrev Cx.Cp(X:Cx):Cx:=X.ux fun _ _=>False
theorem Cx.Ok.ux{X:Cx}(ok:X.Ok)(E:kX):(X.ux E).Ok :=
  ⟨ok.mod,ok.kind,ok.glob,ok.blt,ok.above,ok.inj,ok.has,ok.Ny,ok.hd,ok.frames,ok.OG,ok.RJ,ok.bs,ok.Lb,ok.Au,ok.Ck,ok.pZ,ok.Lc⟩
theorem Cx.Ok.lu{X:Cx}(ok:(X.ux E).Ok):X.Ok :=
  ⟨ok.mod,ok.kind,ok.glob,ok.blt,ok.above,ok.inj,ok.has,ok.Ny,ok.hd,ok.frames,ok.OG,ok.RJ,ok.bs,ok.Lb,ok.Au,ok.Ck,ok.pZ,ok.Lc⟩
section
variable {X:Cx} {pins:jc} {σ:St} {H:Hp} {s:Shared} {E:kX}
theorem Inv.ux(I:Inv X pins σ H s)(E:kX):Inv (X.ux E) pins σ H s:=⟨I.ok.ux E,I.os,I.bare,I.base,I.loc,I.cell,I.free,I.g8,I.pin,I.cf,I.len⟩
theorem Inv.lu(I:Inv (X.ux E) pins σ H s):Inv X pins σ H s:=⟨I.ok.lu,I.os,I.bare,I.base,I.loc,I.cell,I.free,I.g8,I.pin,I.cf,I.len⟩
theorem SP.lu{D:Ends}{f:Flow}{s':Shared}(h:SP (X.ux E) pins D f s'):SP X pins D f s':=by
  cases f with
  |next=>obtain⟨σ',H',I,q⟩:=h;exact⟨σ',H',I.lu,q⟩
  |brk=>obtain⟨σ',H',I,q⟩:=h;exact⟨σ',H',I.lu,q⟩
  |cont=>obtain⟨σ',H',I,q⟩:=h;exact⟨σ',H',I.lu,q⟩
  |ret u=>obtain⟨v,σ',H',I,r,q⟩:=h;exact⟨v,σ',H',I.lu,r,q⟩
theorem PE.Cp{t:TE}(h:PE X.Cp e t):PE X e t:=fun pins s σ H Q I hw =>
  j4 (h pins s σ H Q (I.ux _) hw) (fun _ _ ⟨v,H',I',r,q⟩=>⟨v,H',I'.lu,r,q⟩) fun _ _ z=>False.elim z
theorem PT.Cp{t:TT}(h:PT X.Cp e t):PT X e t:=fun pins s σ H Q I hw =>
  j4 (h pins s σ H Q (I.ux _) hw) (fun _ _ ⟨H',I',q⟩=>⟨H',I'.lu,q⟩) fun _ _ z=>False.elim z
theorem xZ.Cp{st:List Stmt}{t:TS}(h:xZ X.Cp st t):xZ X st t:=fun pins s σ H D I hw =>
  j4 (h pins s σ H D (I.ux _) hw) (fun _ _ q=>q.lu) fun _ _ z=>False.elim z
end
section
variable {X:Cx} {st:Stmt} {rest:List Stmt} {t u:TS} {e:Expr} {te:TE} {pos:Pos}
def RP:TS:=fun D σ H=>D.nx σ H
def Wj(t u:TS):TS:=fun D σ H=>t { D with nx:=u D } σ H
theorem Ls:xZ X [] RP:=fun _ _ σ H _ I h=>wpAny_execs_nil ⟨σ,H,I,h⟩
theorem HN(h1:PS X st t)(h2:xZ X rest u):xZ X (st::rest) (Wj t u):=by
  intro pins s σ H D I h;refine wpAny_execs_cons (fW (h1 pins s σ H { D with nx:=u D } I h) fun f s1 q=>?_);cases f with
  |next=>obtain⟨σ',H',I',q⟩:=q;exact h2 pins s1 σ' H' D I' q
  |ret v=>exact q
  |brk=>exact q
  |cont=>exact q
theorem D7(h1:PS X st t):xZ X [st] t:=by
  intro pins s σ H D I h;refine wpAny_execs_cons (fW (h1 pins s σ H D I h) fun f s1 q=>?_);cases f with
  |next=>exact wpAny_execs_nil q
  |ret v=>exact q
  |brk=>exact q
  |cont=>exact q
theorem Inv.quiet{σ:St}{H:Hp}(I:Inv X pins σ H s):interactive X.env=false:=by simp[interactive,I.ok.kind]
def RQ(te:TE):TS:=fun D σ H=>te σ H fun _ H1=>D.nx σ H1
theorem D8(he:PE X e te)(hs:swapsWith e none pos.line X.env=pure false:=by rfl):PS X (.Expr e pos) (RQ te):=by intro pins s σ H D I h;exact wpAny_Expr_any (fW (he pins s σ H _ I h) fun v s1 ⟨x,H1,I1,r1,q1⟩=>⟨σ,H1,I1,q1⟩) I.quiet hs
def Wk(te:TE):TS:=fun D σ H=>te σ H D.rt
theorem yT(he:PE X e te):PS X (.Return (some e) pos) (Wk te):=by intro pins s σ H D I h;exact wpAny_Return_some (fW (he pins s σ H _ I h) fun v s1 ⟨x,H1,I1,r1,q1⟩=>⟨x,σ,H1,I1,r1,q1⟩)
def Wl(c:TT)(t u:TS):TS:=fun D σ H=>c σ H fun b H1=>if b=true then t D σ H1 else u D σ H1
theorem RT{c:Expr}{a b:List Stmt}{tc:TT}(hc:PT X c tc)(ha:xZ X a t)(hb:xZ X b u):PS X (.If c a b pos) (Wl tc t u):=by
  intro pins s σ H D I h;refine wpAny_If (fW (hc pins s σ H _ I h) fun d s1 ⟨H1,I1,q1⟩=>?_);cases d with
  |true=>exact ha pins s1 σ H1 D I1 q1
  |false=>exact hb pins s1 σ H1 D I1 q1
end
abbrev TG:=V→St→Hp→(St→Hp→Prop)→Prop
abbrev Lv:=List V→St→Hp→(St→Hp→Prop)→Prop
def PG(X:Cx)(target:Expr)(t:TG):Prop :=
  ∀(pins:jc) (s:Shared) (σ:St) (H:Hp) (v:V) (u:Value) (Q:St→Hp→Prop),Inv X pins σ H s→RelV v u→t v σ H Q →
   wpAny (model X.prog X.w) X.A (assign target X.env u) (fun _ s'=>∃σ' H',Inv X pins σ' H' s'∧Q σ' H') X.xe s
def Le(X:Cx)(ts:List Expr)(t:Lv):Prop :=
  ∀(pins:jc) (s:Shared) (σ:St) (H:Hp) (vs:List V) (us:dW) (Q:St→Hp→Prop),Inv X pins σ H s→Vals vs us→t vs σ H Q →
   wpAny (model X.prog X.w) X.A (assignInOrder ((assignEach ts X.env).map (·.2)) us) (fun _ s'=>∃σ' H',Inv X pins σ' H' s'∧Q σ' H') X.xe s
abbrev OY:=V→V→V→Hp→(Hp→Prop)→Prop
def RV(X:Cx)(t:OY):Prop :=
  ∀(pins:jc) (s:Shared) (σ:St) (H:Hp) (o i v:V) (ov iv u:Value) (Q:Hp→Prop),Inv X pins σ H s→RelV o ov→RelV i iv→RelV v u→t o i v H Q →
   wpAny (model X.prog X.w) X.A (setItem ov iv u) (fun _ s'=>∃H',Inv X pins σ H' s'∧Q H') X.xe s
section
variable {X:Cx} {pos:Pos}
def x4(i:Nat):TG:=fun v σ H Q=>Q (σ.set i (some v)) H
theorem Lw(hN:X.N.Nodup)(hi:X.N[i]?=some x)(hx:Loc X.env.scope x)(hf:X.fn x=true∨X.env.scope.names.lookup x=some .local:=by first|exact .inl rfl|exact .inr rfl|assumption):PG X (.Name x pos) (x4 i):=by intro pins s σ H v u Q I r h;exact wpAny_assign_Name (vd I hN hi hx r (fun s' I'=>⟨_,H,I',h⟩) hf)
def Wm:Lv:=fun vs σ H Q=>vs=[]∧Q σ H
def RW(t:TG)(u:Lv):Lv:=fun vs σ H Q=>∃v r,vs=v::r∧t v σ H fun σ' H'=>u r σ' H' Q
theorem Lx:Le X [] Wm:=by intro pins s σ H vs us Q I r h;obtain⟨e,h⟩:=h;subst e;cases r;exact assignInOrder_nil ⟨σ,H,I,h⟩
theorem HP{es:List Expr}{t:TG}{u:Lv}(h1:PG X e t)(h2:Le X es u)(hs:(assignEach (e::es) X.env).map (·.2)=assign e X.env::(assignEach es X.env).map (·.2):=by rfl):Le X (e::es) (RW t u):=by
  intro pins s σ H vs us Q I r h;obtain⟨v,vr,e1,h⟩:=h;subst e1;cases r with
  |cons r rr=>rw[hs];refine assignInOrder_cons (fW (h1 pins s σ H _ _ _ I r h) fun _ s1 ⟨σ1,H1,I1,q1⟩=>?_);exact h2 pins s1 σ1 H1 _ _ Q I1 rr q1
def Wn(K:PySem.W.Frag)(n:Nat)(t:Lv):TG:=fun v σ H Q=>∃a xs,v=.ref a∧j9 K H a xs∧xs.length=n∧t xs σ H Q
theorem OZ{es:List Expr}{t:Lv}(hc:X.calm=true)(h:Le X es t)(hn:(assignEach es X.env).length=n:=by rfl)(FQ:(assignEach es X.env).findIdx? (·.1)=none:=by rfl):PG X (.Tuple es k pos) (Wn X.K n t):=by
  intro pins s σ H v u Q I r hw;obtain⟨a,xs,e1,hq,hl,hw⟩:=hw;subst e1;cases r;obtain⟨its,rv,ht,hz⟩:=I.tuple hq;refine assign_Tuple_tuple (I.ok.hd hc) ht (by simp[hn,←hl,rv.length]) FQ fun h' hx=>?_;have I1:Inv X pins σ H { s with heap:=h' }:=I.kept (t':=s.toks) fun b o e=>hx b o (iP (dR e)) e;exact h pins _ σ H xs _ Q I1 (by simpa using rv) hw
def Wo(to ti:TE)(t:OY):TG:=fun v σ H Q=>to σ H fun o H1=>ti σ H1 fun i H2=>t o i v H2 fun H3=>Q σ H3
theorem O0{o i:Expr}{to ti:TE}{t:OY}(ho:PE X o to)(hi:PE X i ti)(hs:RV X t)(ha:∀v,assign (.Subscript o i pos) X.env v=(do
      let ov ←holding [v] (eval o X.env)
      let iv ←holding [v,ov] (eval i X.env)
      standAt pos
      holding [v,ov,iv] (setItem ov iv v)
      release [v,ov,iv] []):=by intro _;rfl):PG X (.Subscript o i pos) (Wo to ti t):=by
  intro pins s σ H v u Q I r h;rw[ha];refine de (uw (fW (ho pins s σ H _ I h) fun ov s1 ⟨x,H1,I1,r1,q1⟩=>?_));refine de (uw (fW (hi pins s1 σ H1 _ I1 q1) fun iv s2 ⟨y,H2,I2,r2,q2⟩=>?_));refine de (wpAny_standAt (de (uw (fW (hs pins s2 σ H2 x y v ov iv u _ I2 r1 r2 r q2) fun _ s3 ⟨H3,I3,q3⟩=>?_))));exact wpAny_release ⟨σ,H3,I3,q3⟩
def FR(te:TE)(g:TG):TS:=fun D σ H=>te σ H fun x H1=>g x σ H1 D.nx
theorem O1{te:TE}{g:TG}(he:PE X e te)(hg:PG X tg g)(hs:swapsWithSole [tg] e pos.line X.env=pure false:=by rfl)(hw:swappedStores [tg] e X.env=pure none:=by rfl)(h1:(assignEach [tg] X.env).map (·.2)=[assign tg X.env]:=by rfl):PS X (.Assign [tg] e pos) (FR te g):=by
  intro pins s σ H D I h;refine wpAny_Assign_stores (fW (he pins s σ H _ I h) fun v s1 ⟨x,H1,I1,r1,q1⟩=>?_) hs hw;rw[h1];exact fW (hg pins s1 σ H1 x v _ I1 r1 q1) fun _ s2 q=>q
theorem yU{te:TE}(hN:X.N.Nodup)(hi:X.N[i]?=some x)(hx:Loc X.env.scope x)(he:PE X e te)(hs:swapsWith e (some (.Name x pos')) pos.line X.env=pure false:=by rfl)(hf:X.fn x=true∨X.env.scope.names.lookup x=some .local:=by first|exact .inl rfl|exact .inr rfl|assumption):PS X (.Assign [.Name x pos'] e pos) (FR te (x4 i)):=by
  intro pins s σ H D I h;refine wpAny_Assign_Name (fW (he pins s σ H _ I h) fun v s1 ⟨y,H1,I1,r1,q1⟩=>?_) hs;exact vd I1 hN hi hx r1 (fun s2 I2=>⟨_,H1,I2,q1⟩) hf
end
section
variable {X:Cx} {pos:Pos}
def O2(c:TT)(tb:TS):TS:=fun D σ H=>∃W:Nat→St→Hp→Prop,(∃m,W m σ H)∧∀m σ H,W m σ H →
  c σ H fun b H1=>if b=true then ∃N:St→Hp→Prop,(∀σ' H',N σ' H'→∃m',m'<m∧W m' σ' H')∧tb { D with nx:=N,ct:=N,bk:=D.nx } σ H1 else D.nx σ H1
theorem HQ{c:Expr}{tc:TT}{tb:TS}(hp:PassesOwn (model X.prog X.w) X.A X.env X.xe)(hc:PT X c tc)(hb:xZ X body tb):PS X (.While c body [] pos) (O2 tc tb):=by
  intro pins s σ H D I h;obtain⟨W,⟨m0,w0⟩,turn⟩:=h;refine wpAny_While (codeAny_whileLoop (fun n s'=>∃σ' H',Inv X pins σ' H' s'∧W n σ' H') ?_ m0 ⟨σ,H,I,w0⟩);rintro n s1 ⟨σ1,H1,I1,w1⟩;refine wpAny_passesOwn hp (fW (hc pins s1 σ1 H1 _ I1 (turn n σ1 H1 w1)) fun b s2 ⟨H2,I2,q2⟩=>?_);cases b with
  |true =>
   obtain⟨N,hN,q2⟩:=q2;rw[bR rfl];refine wpAny_passesOwn hp (fW (hb pins s2 σ1 H2 _ I2 q2) fun f s3 q3=>?_);cases f with
   |next=>obtain⟨σ3,H3,I3,n3⟩:=q3;obtain⟨m',hm,w3⟩:=hN σ3 H3 n3;exact⟨m',hm,σ3,H3,I3,w3⟩
   |cont=>obtain⟨σ3,H3,I3,n3⟩:=q3;obtain⟨m',hm,w3⟩:=hN σ3 H3 n3;exact⟨m',hm,σ3,H3,I3,w3⟩
   |brk=>exact q3
   |ret v=>exact q3
  |false=>rw[bS jZ];exact wpAny_execs_nil ⟨σ1,H2,I2,q2⟩
end
structure It where
  go:Nat→Hp→Prop
  Hw:Nat→Hp→V→Hp→Prop
  stop:Nat→Hp→Prop
def je(X:Cx)(pins:jc)(H:Hp)(b:Addr):Prop :=
  H b=none∧b≠X.env.locals∧b∉X.fs∧(b∈X.ex∨X.s₀.heap.objs.size≤b)∧(∀x c,X.env.cells.lookup x=some c→c≠b)∧∀p∈X.pn++pins,p.1≠b
theorem Inv.yV{X:Cx}{σ:St}{H H':Hp}(I:Inv X pins σ H s)(hb:s.heap.objs.size≤b)(hn:H' b=none):je X pins H' b:=by
  refine⟨hn,Nat.ne_of_gt (jY I.lt hb),I.OI hb,.inr (qG I.sz hb),fun x c e z=>?_,fun p hp z=>?_⟩
  ·obtain⟨v,q⟩:=I.cell x c e;exact absurd (jY q.lt (by rw[z];exact hb)) (u5 _)
  ·exact absurd (jY (dR (I.pin p hp).1) (by rw[z];exact hb)) (u5 _)
structure Turn (P:Program) (w:World) (K:PySem.W.Frag) (tg:Expr) (J:It) (fp:List Addr) (it:Addr) (tn:Nat→Heap→Prop):Prop where
  mem:it∈fp
  obj:∀i h,tn i h→∀b∈fp,∃o,h.get? b=some o∧∀v,o.data≠.cell v
  keep:∀i h h',tn i h→(∀b∈fp,∀o,h.get? b=some o→h'.get? b=some o)→tn i h'
  item:∀(X:Cx),X.prog=P→X.w=w→X.K=K→X.calm=true→∀(i:Nat) (pins:jc) (s:Shared) (σ:St) (H:Hp) (E:kX),Inv X pins σ H s→(∀b∈fp,je X pins H b)→tn i s.heap→J.go i H →
    wpAny (model P w) X.A (pyNext (.ref it)) (fun r s1=>∃u,r=some u ∧
      wpAny (model P w) X.A (letOwnedTupleGo tg (.ref it) u) (fun _ s2=>∃x H',Inv X pins σ H' s2∧RelV x u∧J.Hw i H x H'∧tn (i+1) s2.heap∧∀b∈fp,H' b=none) E s1) E s
  done:∀(X:Cx),X.prog=P→X.w=w→X.K=K→X.calm=true→∀(i:Nat) (pins:jc) (s:Shared) (σ:St) (H:Hp) (E:kX),Inv X pins σ H s→(∀b∈fp,je X pins H b)→tn i s.heap→J.stop i H →
    wpAny (model P w) X.A (pyNext (.ref it)) (fun r s1=>r=none∧Inv X pins σ H s1) E s
  self:∀(A:Around) (i:Nat) (s:Shared) (Q:kX) (E:kX),tn i s.heap→Q (.ref it) s→wpAny (model P w) A (pyIter (.ref it)) Q E s
abbrev TI:=St→Hp→(It→Hp→Prop)→Prop
def PIE(X:Cx)(pins:jc)(σ:St)(tg:Expr)(R:It→Hp→Prop)(U9:Value)(s2:Shared):Prop :=
  ∃(it:Addr) (fp:List Addr) (tn:Nat→Heap→Prop) (J:It) (H':Hp),U9=.ref it∧Inv X pins σ H' s2∧Turn X.prog X.w X.K tg J fp it tn∧tn 0 s2.heap∧(∀b∈fp,je X pins H' b)∧R J H'
def PI(X:Cx)(tg iter:Expr)(wi:TI):Prop :=
  ∀(pins:jc) (s:Shared) (σ:St) (H:Hp) (R:It→Hp→Prop),Inv X pins σ H s→wi σ H R →
   wpAny (model X.prog X.w) X.A (eval iter X.env) (fun v s1=>wpAny (model X.prog X.w) X.A (pyIter v) (PIE X pins σ tg R) X.xe s1) X.xe s
theorem HR{it:Addr}{o:Obj}{n:String}{vs:Array Value}{Q:Unit→Shared→Prop}(ho:s.heap.get? it=some o)(hc:o.cls=.type n)(hd:o.data=.fields vs)(hn:["enumerate","zip","dict_itemiterator","dict_reverseitemiterator","odict_iterator","itertools.zip_longest","itertools.pairwise"].contains n=false)(hQ:Q () s):wpAny M A (letOwnedTupleGo tg (.ref it) u) Q E s:=by
  unfold letOwnedTupleGo;cases tg<;>first
    |exact cU hQ
    |(cases u<;>first
        |exact cU hQ
        |(refine de (wpAny_load ho ?_)
          rw[hc,hd];show wpAny M A (if (["enumerate","zip","dict_itemiterator","dict_reverseitemiterator","odict_iterator","itertools.zip_longest","itertools.pairwise"].contains n&&vs[0]?==some (rawInt _))=true then _ else _) Q E s;rw[bS (by intro h;rw[hn,Bool.false_and] at h;cases h)];exact cU hQ))
def Va(K:PySem.W.Frag)(a:Addr):It :=
  ⟨fun i H=>∃xs x,jE K H a xs∧xs[i]?=some x,fun i H x H'=>H'=H∧∀xs,jE K H a xs→xs[i]?=some x,fun i H=>∃xs,jE K H a xs∧xs.length≤i⟩
def Wq(K:PySem.W.Frag)(a:Addr):It :=
  ⟨fun i H=>∃xs x,j9 K H a xs∧xs[i]?=some x,fun i H x H'=>H'=H∧∀xs,j9 K H a xs→xs[i]?=some x,fun i H=>∃xs,j9 K H a xs∧xs.length≤i⟩
def RX(lo:Int)(n:Nat):It:=⟨fun i _=>i<n,fun i H x H'=>H'=H∧x=.int (lo+i),fun i _=>n≤i⟩
theorem FT{K:PySem.W.Frag}(a it:Addr):Turn P w K tg (Va K a) [it] it (fun i h=>h.IsListIter it a i) where
  mem:=by simp
  obj:=fun i h st b hb=>by
    have e:b=it:=by simpa using hb
    subst e;obtain⟨o,e,c,d⟩:=st;exact⟨o,e,fun v z=>by rw[d] at z;cases z⟩
  keep:=fun i h h' st k=>st.at fun o e=>k it (by simp) o e
  item:=by intro X hP hw hK hc i pins s σ H E I hf st hg;subst hP hw hK;obtain⟨xs,x,hq,hx⟩:=hg;obtain⟨its,rv,p,hz⟩:=I.list hq;obtain⟨u,hu,ru⟩:=rv.get hx;obtain⟨f0,f1,f2,f3,f4,f5⟩:=hf it (by simp);refine wpAny_pyNext_list_item st p.isList (x:=u) (by simpa using hu) fun h' t7 sb=>?_;have I1:Inv X pins σ H { s with heap:=h' }:=I.turned (t':=s.toks) (fun b o hb e=>(sb.2 b hb).trans e) f0 f1 f3 f4 f5;obtain⟨o,e,c,d⟩:=id t7;exact⟨u,rfl,HR (s:={ s with heap:=h' }) e c d (by decide) ⟨x,H,I1,ru,⟨rfl,fun ys hy=>by rw[I.Av hy hq];exact hx⟩,t7,fun b hb=>(hf b hb).1⟩⟩
  done:=by intro X hP hw hK hc i pins s σ H E I hf st hg;subst hP hw hK;obtain⟨xs,hq,hx⟩:=hg;obtain⟨its,rv,p,hz⟩:=I.list hq;obtain⟨f0,f1,f2,f3,f4,f5⟩:=hf it (by simp);have hl:=rv.length;exact wpAny_pyNext_list_end (I.ok.hd hc) st p.isList (by simp;omega) fun h' eb=>⟨rfl,I.turned (t':=s.toks) (fun b o hb e=>eb b o hb e) f0 f1 f3 f4 f5⟩
  self:=fun _ _ _ _ _ st h=>wpAny_pyIter_listiter st h
theorem Cq{K:PySem.W.Frag}(a it:Addr):Turn P w K tg (Wq K a) [it] it (fun i h=>h.IsTupleIter it a i) where
  mem:=by simp
  obj:=fun i h st b hb=>by
    have e:b=it:=by simpa using hb
    subst e;obtain⟨o,e,c,d⟩:=st;exact⟨o,e,fun v z=>by rw[d] at z;cases z⟩
  keep:=fun i h h' st k=>st.at fun o e=>k it (by simp) o e
  item:=by intro X hP hw hK hc i pins s σ H E I hf st hg;subst hP hw hK;obtain⟨xs,x,hq,hx⟩:=hg;obtain⟨its,rv,p,hz⟩:=I.tuple hq;obtain⟨u,hu,ru⟩:=rv.get hx;obtain⟨f0,f1,f2,f3,f4,f5⟩:=hf it (by simp);refine wpAny_pyNext_tuple_item st (show s.heap.IsTuple a its.toArray from p) (x:=u) (by simpa using hu) fun h' t7 sb=>?_;have I1:Inv X pins σ H { s with heap:=h' }:=I.turned (t':=s.toks) (fun b o hb e=>(sb.2 b hb).trans e) f0 f1 f3 f4 f5;obtain⟨o,e,c,d⟩:=id t7;exact⟨u,rfl,HR (s:={ s with heap:=h' }) e c d (by decide) ⟨x,H,I1,ru,⟨rfl,fun ys hy=>by rw[I.FP hy hq];exact hx⟩,t7,fun b hb=>(hf b hb).1⟩⟩
  done:=by intro X hP hw hK hc i pins s σ H E I hf st hg;subst hP hw hK;obtain⟨xs,hq,hx⟩:=hg;obtain⟨its,rv,p,hz⟩:=I.tuple hq;obtain⟨f0,f1,f2,f3,f4,f5⟩:=hf it (by simp);have hl:=rv.length;exact wpAny_pyNext_tuple_end (I.ok.hd hc) st (show s.heap.IsTuple a its.toArray from p) (by simp;omega) fun h' eb=>⟨rfl,I.turned (t':=s.toks) (fun b o hb e=>eb b o hb e) f0 f1 f3 f4 f5⟩
  self:=fun _ _ _ _ _ st h=>wpAny_pyIter_tupleiter st h
theorem Ct{K:PySem.W.Frag}(it:Addr)(lo:Int)(n:Nat):Turn P w K tg (RX lo n) [it] it (fun i h=>IsRangeIter h it (lo+(i:Nat)*1) ((n:Int)-(i:Nat)) 1) where
  mem:=by simp
  obj:=fun i h st b hb=>by
    have e:b=it:=by simpa using hb
    subst e;exact⟨_,st,fun v z=>by
      have z':Data.fields _=Data.cell v:=z;cases z'⟩
  keep:=fun i h h' st k=>k it (by simp) _ st
  item:=by intro X hP hw hK hc i pins s σ H E I hf st hg;subst hP hw hK;obtain⟨f0,f1,f2,f3,f4,f5⟩:=hf it (by simp);have W:=Walks.range (prog:=X.prog) (w:=X.w) (I.ok.hd hc) it lo 1 n;refine W.item i s _ _ hg st fun v h' tk hv t7 kk=>?_;obtain⟨t,rfl⟩:=hv;have I1:Inv X pins σ H { s with heap:=h',toks:=tk }:=I.turned (fun b o hb e=>kk b o (by simpa using hb) e) f0 f1 f3 f4 f5;refine⟨_,rfl,HR (s:={ s with heap:=h',toks:=tk }) (n:="range_iterator") t7 rfl rfl (by decide) ⟨.int (lo+i),H,I1,⟨t,?_⟩,⟨rfl,rfl⟩,t7,fun b hb=>(hf b hb).1⟩⟩;rw[Int.mul_one]
  done:=by intro X hP hw hK hc i pins s σ H E I hf st hg;subst hP hw hK;obtain⟨f0,f1,f2,f3,f4,f5⟩:=hf it (by simp);exact wpAny_pyNext_range_end (I.ok.hd hc) st (by have:n≤i:=hg;omega) fun h' eb=>⟨rfl,I.turned (t':=s.toks) (fun b o hb e=>eb b o hb e) f0 f1 f3 f4 f5⟩
  self:=fun _ _ _ _ _ st h=>wpAny_pyIter_rangeiter st h
section
variable {X:Cx} {tg:Expr}
def RZ(K:PySem.W.Frag)(tl:TE):TI:=fun σ H R=>tl σ H fun x H1=>∃a,x=.ref a∧(∃xs,jE K H1 a xs)∧R (Va K a) H1
def Wr(K:PySem.W.Frag)(tl:TE):TI:=fun σ H R=>tl σ H fun x H1=>∃a,x=.ref a∧(∃xs,j9 K H1 a xs)∧R (Wq K a) H1
theorem D9{l:Expr}{tl:TE}(hl:PE X l tl):PI X tg l (RZ X.K tl):=by
  intro pins s σ H R I h;refine fW (hl pins s σ H _ I h) fun v s1 ⟨x,H1,I1,r1,q1⟩=>?_;obtain⟨a,e,⟨xs,hq⟩,q⟩:=q1;subst e;cases r1;obtain⟨its,rv,p,hz⟩:=I1.list hq;refine wpAny_pyIter_list p.isList ?_;refine⟨s1.heap.objs.size,[s1.heap.objs.size],_,_,H1,rfl,I1.kept (t':=s1.toks) fun b o e=>nE _ e,FT a _,⟨_,lO _ rfl,rfl,rfl⟩,fun b hb=>?_,q⟩;have e:b=s1.heap.objs.size:=by simpa using hb
  subst e;exact I1.yV (cN _) (I1.cf.fresh (cN _))
theorem O3{l:Expr}{tl:TE}(hl:PE X l tl):PI X tg l (Wr X.K tl):=by
  intro pins s σ H R I h;refine fW (hl pins s σ H _ I h) fun v s1 ⟨x,H1,I1,r1,q1⟩=>?_;obtain⟨a,e,⟨xs,hq⟩,q⟩:=q1;subst e;cases r1;obtain⟨its,rv,p,hz⟩:=I1.tuple hq;refine wpAny_pyIter_tuple (show s1.heap.IsTuple a its.toArray from p) ?_;refine⟨s1.heap.objs.size,[s1.heap.objs.size],_,_,H1,rfl,I1.kept (t':=s1.toks) fun b o e=>nE _ e,Cq a _,⟨_,lO _ rfl,rfl,rfl⟩,fun b hb=>?_,q⟩;have e:b=s1.heap.objs.size:=by simpa using hb
  subst e;exact I1.yV (cN _) (I1.cf.fresh (cN _))
theorem Aw{σ:St}{H:Hp}{R:It→Hp→Prop}{lo hi:Int}{t u v:Tok}{tk:Nat}(I:Inv X pins σ H s)(h1:-(2^62)≤lo)(h2:lo<2^62)(h3:-(2^62)≤hi)(h4:hi<2^62)(q:R (RX lo (hi-lo).toNat) H):wpAny (model X.prog X.w) X.A (pyIter (.ref s.heap.objs.size)) (PIE X pins σ tg R) E { s with heap:=s.heap.push { cls:=.type "range",data:=.fields #[.int lo t,.int hi u,.int 1 v] },toks:=tk }:=by
  refine wpAny_pyIter_range (IsRange.new ..) (small_one h1 h2 h3 h4) ?_;have I1:Inv X pins σ H { s with heap:=s.heap.push { cls:=.type "range",data:=.fields #[.int lo t,.int hi u,.int 1 v] },toks:=tk }:=I.kept fun b o e=>nE _ e;refine⟨(s.heap.push { cls:=.type "range",data:=.fields #[.int lo t,.int hi u,.int 1 v] }).objs.size,[(s.heap.push { cls:=.type "range",data:=.fields #[.int lo t,.int hi u,.int 1 v] }).objs.size],_,_,H,rfl,
    I1.kept (t':=tk) fun b o e=>nE _ e,Ct _ lo (hi-lo).toNat,?_,fun b hb=>?_,q⟩
  · have e1:lo+((0:Nat):Int)*1=lo:=by simp
    have e2:(((hi-lo).toNat:Nat):Int)-((0:Nat):Int)=Builtin.Range.rangeSize lo hi 1:=by rw[rangeSize_one];split<;>omega
    show IsRangeIter _ _ (lo+((0:Nat):Int)*1) ((((hi-lo).toNat:Nat):Int)-((0:Nat):Int)) 1;rw[e1,e2];exact lO _ rfl
  · have e:b=(s.heap.push { cls:=.type "range",data:=.fields #[.int lo t,.int hi u,.int 1 v] }).objs.size:=by simpa using hb
    subst e;exact I1.yV (cN _) (I1.cf.fresh (cN _))
def R0(ta:TA):TI:=fun σ H R=>ta σ H fun vs H1=>∃j:Int,vs=[.int j]∧-(2^62)≤j∧j<2^62∧R (RX 0 j.toNat) H1
def R1(ta:TA):TI:=fun σ H R=>ta σ H fun vs H1=>∃i j:Int,vs=[.int i,.int j]∧(-(2^62)≤i∧i<2^62∧-(2^62)≤j∧j<2^62)∧R (RX i (j-i).toNat) H1
theorem FU{a:Expr}{ta:TA}{p:Pos}(hg:Gl X "range")(hm:X.mg "range"=none)(ha:PA X [a] ta)(hs:starEach [a] X.env=[(false,eval a X.env)]:=by rfl):PI X tg (.Call (.Name "range" p) [a] [] pos) (R0 ta):=by
  intro pins s σ H R I h;refine Call_ (p6 I hg hm boot_range (PyProof.Rows.callWith_type1 (fW (ha pos pins s σ H _ I h) fun us s1 ⟨vs,H1,I1,r1,q1⟩=>?_) hs rfl));obtain⟨j,e,q1,q2,q⟩:=q1;subst e;cases r1 with
  |cons r rr=>cases rr;obtain⟨t,rfl⟩:=r;exact call_range_1 (Aw I1 (by omega) (by omega) q1 q2 (by simpa using q))
theorem FV{a b:Expr}{ta:TA}{p:Pos}(hg:Gl X "range")(hm:X.mg "range"=none)(ha:PA X [a,b] ta)(hs:starEach [a,b] X.env=[(false,eval a X.env),(false,eval b X.env)]:=by rfl)(yW:starEach [b] X.env=[(false,eval b X.env)]:=by rfl):PI X tg (.Call (.Name "range" p) [a,b] [] pos) (R1 ta):=by
  intro pins s σ H R I h;refine Call_ (p6 I hg hm boot_range (PyProof.Rows.callWith_type1 (fW (ha pos pins s σ H _ I h) fun us s1 ⟨vs,H1,I1,r1,q1⟩=>?_) (by rw[hs,yW]) (by rw[yW];rfl)));obtain⟨i,j,e,⟨q1,q2,q3,q4⟩,q⟩:=q1;subst e;cases r1 with
  |cons r rr =>
   cases rr with
   |cons r' rr=>cases rr;obtain⟨t,rfl⟩:=r;obtain⟨t',rfl⟩:=r';exact call_range_2 (Aw I1 q1 q2 q3 q4 q)
def Ws(wi:TI)(g:TG)(tb:TS):TS:=fun D σ H=>wi σ H fun J H1=>∃W:Nat→Nat→St→Hp→Prop,(∃m,W 0 m σ H1)∧∀i m σ H,W i m σ H →
  (J.stop i H∧D.nx σ H)∨(J.go i H∧∃N:St→Hp→Prop,(∀σ' H',N σ' H'→∃m',m'<m∧W (i+1) m' σ' H')∧∀x H',J.Hw i H x H'→g x σ H' fun σ2 H2=>tb { D with nx:=N,ct:=N,bk:=D.nx } σ2 H2)
def ve(fp:List Addr)(h:Heap):jc:=fp.filterMap fun b=>(h.get? b).map fun o=>(b,o)
theorem mH{o:Obj}(hb:b∈fp)(e:h.get? b=some o):(b,o)∈ve fp h:=List.mem_filterMap.mpr ⟨b,hb,by rw[e];rfl⟩
theorem FW{p:Addr×Obj}(hp:p∈ve fp h):p.1∈fp∧h.get? p.1=some p.2:=by
  obtain⟨b,hb,e⟩:=List.mem_filterMap.mp hp;cases q:h.get? b with
  |none=>rw[q] at e;cases e
  |some o=>rw[q] at e;have e':(b,o)=p:=kj e;subst e';exact⟨hb,q⟩
theorem Inv.pinned{σ:St}{H:Hp}(I:Inv X pins σ H s)(hf:∀b∈fp,je X pins H b)(ho:∀b∈fp,∃o,s.heap.get? b=some o∧∀v,o.data≠.cell v):Inv X (pins++ve fp s.heap) σ H s :=
  I.yR fun p hp=>(sI.mp hp).elim (fun z=>I.pin p (kR _ z)) fun z=>by obtain⟨hb,e⟩:=FW z;obtain⟨f0,f1,f2,_⟩:=hf p.1 hb;obtain⟨o,e',d⟩:=ho p.1 hb;rw[e] at e';cases e';exact⟨e,f0,f1,f2,d⟩
theorem Inv.lS{pl:jc}{σ:St}{H:Hp}(I:Inv X (pins++pl) σ H s):Inv X pins σ H s:=I.yR fun p hp=>I.pin p (kR _ (List.mem_append_left _ hp))
theorem O4{iter:Expr}{wi:TI}{g:TG}{tb:TS}(hp:PassesOwn (model X.prog X.w) X.A X.env X.xe)(hc:X.calm=true)(hi:PI X tg iter wi)(hg:PG X tg g)(hb:xZ X body tb)(hs:∀x,foldedSetIterable iter X.env x=pure x:=by intro _;rfl):PS X (.For tg iter body [] pos) (Ws wi g tb):=by
  intro pins s σ H D I h;refine wpAny_For (fW (hi pins s σ H _ I h) fun v s1 h1=>fW h1 fun U9 s2 h2=>?_) hs;obtain⟨it,fp,tn,J,H2,e,I2,T,R3,f2,W,⟨m0,w0⟩,turn⟩:=h2;subst e
  -- what stays true of the iterator's objects through the loop
  have stat:∀{H':Hp},(∀b∈fp,H' b=none)→∀b∈fp,je X pins H' b:=fun hn b hb=>⟨hn b hb,(f2 b hb).2⟩
  refine codeAny_forLoop_any (fun n s'=>∃i σ' H',Inv X pins σ' H' s'∧tn i s'.heap∧(∀b∈fp,H' b=none)∧W i n σ' H') ?_ m0 ⟨0,σ,H2,I2,R3,fun b hb=>(f2 b hb).1,w0⟩;rintro n s3 ⟨i,σ3,H3,I3,st3,fr3,w3⟩;rcases turn i n σ3 H3 w3 with⟨stop,qn⟩|⟨go,N,hN,step⟩
  ·refine wpAny_passesOwn hp (fW (T.done X rfl rfl rfl hc i pins s3 σ3 H3 X.xe I3 (stat fr3) st3 stop) fun r s4 ⟨hr,I4⟩=>?_);subst hr;exact wpAny_execs_nil ⟨σ3,H3,I4,qn⟩
  · refine wpAny_passesOwn hp (fW (T.item X rfl rfl rfl hc i pins s3 σ3 H3 X.xe I3 (stat fr3) st3 go) fun r s4 ⟨u,hr,h4⟩=>?_);subst hr;refine wpAny_passesOwn hp (fW h4 fun _ s5 ⟨x,H5,I5,r5,y5,Wt,fr5⟩=>?_);have I5':=I5.pinned (stat fr5) (T.obj _ _ Wt);refine wpAny_passesOwn hp (fW (hg _ s5 σ3 H5 x u _ I5' r5 (step x H5 y5)) fun _ s6 ⟨σ6,H6,I6,q6⟩=>?_);refine wpAny_passesOwn hp (fW (hb _ s6 σ6 H6 _ I6 q6) fun f s7 q7=>?_);have again:∀{σ7:St} {H7:Hp},Inv X (pins++ve fp s5.heap) σ7 H7 s7→N σ7 H7→∃m,m<n∧∃i σ' H',Inv X pins σ' H' s7∧tn i s7.heap∧(∀b∈fp,H' b=none)∧W i m σ' H':=fun {σ7 H7} I7 n7=>by
      obtain⟨m',hm,w7⟩:=hN σ7 H7 n7;refine⟨m',hm,i+1,σ7,H7,I7.lS,T.keep _ _ _ Wt fun b hb o e=>(I7.pin (b,o) (kR _ (kR _ (mH hb e)))).1,fun b hb=>?_,w7⟩;obtain⟨o,e,d⟩:=T.obj _ _ Wt b hb;exact(I7.pin (b,o) (kR _ (kR _ (mH hb e)))).2.1
    cases f with
    |next=>obtain⟨σ7,H7,I7,n7⟩:=q7;exact again I7 n7
    |cont=>obtain⟨σ7,H7,I7,n7⟩:=q7;exact again I7 n7
    |brk=>obtain⟨σ7,H7,I7,q7⟩:=q7;exact⟨σ7,H7,I7.lS,q7⟩
    |ret v=>obtain⟨x7,σ7,H7,I7,r7,q7⟩:=q7;exact⟨x7,σ7,H7,I7.lS,r7,q7⟩
end
abbrev R2:=V→V→Hp→VK→Prop
def nK(X:Cx)(f:Value→Value→Sem Value)(r:R2):Prop :=
  ∀(pins:jc) (s:Shared) (σ:St) (H:Hp) (x y:V) (v u:Value) (Q:VK),Inv X pins σ H s→RelV x v→RelV y u→r x y H Q →
   wpAny (model X.prog X.w) X.A (f v u) (EP X pins σ Q) X.xe s
def Wu(X:Cx)(f:Value→Sem Value)(r:V→Hp→VK→Prop):Prop :=
  ∀(pins:jc) (s:Shared) (σ:St) (H:Hp) (x:V) (v:Value) (Q:VK),Inv X pins σ H s→RelV x v→r x H Q →
   wpAny (model X.prog X.w) X.A (f v) (EP X pins σ Q) X.xe s
def lT(X:Cx)(f:Value)(r:List V→Hp→VK→Prop):Prop :=
  ∀(pins:jc) (s:Shared) (σ:St) (H:Hp) (xs:List V) (us:dW) (Q:VK),Inv X pins σ H s→Vals xs us→r xs H Q →
   wpAny (model X.prog X.w) X.A (call f us) (EP X pins σ Q) X.xe s
def R4(r:R2)(ta tb:TE):TE:=fun σ H Q=>ta σ H fun x H1=>tb σ H1 fun y H2=>r x y H2 Q
def tUn(r:V→Hp→VK→Prop)(ta:TE):TE:=fun σ H Q=>ta σ H fun x H1=>r x H1 Q
def rI(C:Int→Int→Prop)(g:Int→Int→V):R2:=fun x y H Q=>∃i j,x=.int i∧y=.int j∧C i j∧Q (g i j) H
def Ly(g:Int→Int→V):R2:=fun x y H Q=>∃i j,x=.int i∧y=.int j∧Q (g i j) H
def rU(g:Int→V):V→Hp→VK→Prop:=fun x H Q=>∃i,x=.int i∧Q (g i) H
section
variable {X:Cx} {a b c:Expr} {ta tb tc:TE} {pos:Pos}
theorem O5(ha:PE X a ta)(hb:PE X b tb){σ:St}{H:Hp}{R:V→V→Hp→Prop}(I:Inv X pins σ H s)(h:ta σ H fun x H1=>tb σ H1 fun y H2=>R x y H2){f:Value→Value→Sem Value}(hf:∀v u s2 x y H2,Inv X pins σ H2 s2→RelV x v→RelV y u→R x y H2→wpAny (model X.prog X.w) X.A (f v u) Q X.xe s2):wpAny (model X.prog X.w) X.A (eval a X.env) (fun v s₁=>wpAny (model X.prog X.w) X.A (eval b X.env) (fun u s₂=>wpAny (model X.prog X.w) X.A (f v u) Q X.xe s₂) X.xe s₁) X.xe s:=by
  refine fW (ha pins s σ H _ I h) fun v s1 ⟨x,H1,I1,r1,q1⟩=>?_;refine fW (hb pins s1 σ H1 _ I1 q1) fun u s2 ⟨y,H2,I2,r2,q2⟩=>?_;exact hf v u s2 x y H2 I2 r1 r2 q2
theorem NF{op:Operator}{r:R2}(ho:nK X (binaryOp op) r)(ha:PE X a ta)(hb:PE X b tb):PE X (.BinOp a op b pos) (R4 r ta tb):=by intro pins s σ H Q I h;exact wpAny_BinOp (O5 ha hb I h fun v u s2 x y H2 I2 rx ry q=>ho pins s2 σ H2 x y v u Q I2 rx ry q)
theorem R5{op:UnaryOp}{r:V→Hp→VK→Prop}(ho:Wu X (unaryOp op) r)(ha:PE X a ta):PE X (.UnaryOp op a pos) (tUn r ta):=by intro pins s σ H Q I h;exact UnaryOp_ (fW (ha pins s σ H _ I h) fun v s1 ⟨x,H1,I1,r1,q1⟩=>ho pins s1 σ H1 x v Q I1 r1 q1)
theorem NH{f:Value→Value→Sem Value}{C:Int→Int→Prop}{g:Int→Int→Int}(rule:∀(i j:Int) (t u:Tok) (s:Shared) (Q:kX) (E:kX),C i j→Q (.int (g i j) s.toks) { s with toks:=s.toks+1 }→wpAny (model X.prog X.w) X.A (f (.int i t) (.int j u)) Q E s):nK X f (rI C fun i j=>.int (g i j)):=by
  intro pins s σ H x y v u Q I rx ry h;obtain⟨i,j,rfl,rfl,hc,q⟩:=h;obtain⟨t,rfl⟩:=rx;obtain⟨t',rfl⟩:=ry;exact rule i j t t' s _ _ hc ⟨.int (g i j),H,I.tok _,⟨_,rfl⟩,q⟩
theorem O6{f:Value→Value→Sem Value}{g:Int→Int→Int}(rule:∀(i j:Int) (t u:Tok) (s:Shared) (Q:kX) (E:kX),Q (.int (g i j) s.toks) { s with toks:=s.toks+1 }→wpAny (model X.prog X.w) X.A (f (.int i t) (.int j u)) Q E s):nK X f (Ly fun i j=>.int (g i j)):=by
  intro pins s σ H x y v u Q I rx ry h;obtain⟨i,j,rfl,rfl,q⟩:=h;obtain⟨t,rfl⟩:=rx;obtain⟨t',rfl⟩:=ry;exact rule i j t t' s _ _ ⟨.int (g i j),H,I.tok _,⟨_,rfl⟩,q⟩
theorem R6{f:Value→Value→Sem Value}{g:Int→Int→Bool}(rule:∀(i j:Int) (t u:Tok) (s:Shared) (Q:kX) (E:kX),Q (.bool (g i j)) s→wpAny (model X.prog X.w) X.A (f (.int i t) (.int j u)) Q E s):nK X f (Ly fun i j=>.bl (g i j)):=by
  intro pins s σ H x y v u Q I rx ry h;obtain⟨i,j,rfl,rfl,q⟩:=h;obtain⟨t,rfl⟩:=rx;obtain⟨t',rfl⟩:=ry;exact rule i j t t' s _ _ ⟨.bl (g i j),H,I,rfl,q⟩
def R7(i j:Int):Prop:=0<j∧j<1073741824
def O7(i j:Int):Prop:=0≤j∧j≤1000000∧i.natAbs<2^64
def Lz(i j:Int):Prop:=(-(2^64)<i∧i<2^64)∨(-(2^64)<j∧j<2^64)
theorem Lz.ok{i:Int}(h:Lz i j):IntMulOk i j:=by
  rcases h with⟨h1,h2⟩|⟨h1,h2⟩
  ·exact .of_left (intBits_le_64 h1 h2)
  ·exact .of_right (intBits_le_64 h1 h2)
theorem Cu(k:Nat):(0:Int)≤2^k:=by rw[two_pow_cast];exact Int.natCast_nonneg _
theorem O8:nK X (binaryOp .Add) (Ly fun i j=>.int (i+j)):=O6 fun _ _ _ _ _ _ _ q=>add_int q
theorem O9:nK X (binaryOp .Sub) (Ly fun i j=>.int (i-j)):=O6 fun _ _ _ _ _ _ _ q=>sub_int q
theorem Pa:nK X (binaryOp .Mult) (rI Lz fun i j=>.int (i*j)):=NH fun _ _ _ _ _ _ _ hc q=>mul_int q hc.ok
theorem LB:nK X (binaryOp .FloorDiv) (rI R7 fun i j=>.int (i / j)):=NH fun i j _ _ _ _ _ hc q=>by have h1:(0:Int)<j:=hc.1;have h2:j<1073741824:=hc.2;exact floordiv_int (by omega) (by rw[Int.fdiv_eq_ediv_of_nonneg i (by omega)];exact q) (.inl (PyProof.noPylong_small (by omega)))
theorem Pb:nK X (binaryOp .Mod) (rI (fun _ j=>0<j) fun i j=>.int (i%j)):=NH fun i j _ _ _ _ _ hc q=>by have h1:(0:Int)<j:=hc;exact mod_int' (by omega) (by rw[Int.fmod_eq_emod_of_nonneg i (by omega)];exact q)
theorem Pg:nK X (binaryOp .Pow) (rI O7 fun i j=>.int (i^j.toNat)):=NH fun _ _ _ _ _ _ _ hc q=>pow_int_small hc.1 hc.2.1 hc.2.2 q
theorem Ph:nK X (binaryOp .LShift) (rI O7 fun i j=>.int (i*2^j.toNat)):=NH fun _ _ _ _ _ _ _ hc q=>lshift_int_small hc.1 hc.2.1 hc.2.2 q
theorem Pj:nK X (binaryOp .RShift) (rI (fun _ j=>0≤j) fun i j=>.int (i / 2^j.toNat)):=NH fun i j _ _ _ _ _ hc q =>
  rshift_int hc (by rw[Int.fdiv_eq_ediv_of_nonneg i (Cu _)];exact q)
theorem Pk:nK X (binaryOp .BitAnd) (Ly fun i j=>.int (Builtin.bitAnd i j)):=O6 fun _ _ _ _ _ _ _ q=>and_int q
theorem unI{f:Value→Sem Value}{g:Int→Int}(rule:∀(i:Int) (t:Tok) (s:Shared) (Q:kX) (E:kX),Q (.int (g i) s.toks) { s with toks:=s.toks+1 }→wpAny (model X.prog X.w) X.A (f (.int i t)) Q E s):Wu X f (rU fun i=>.int (g i)):=by
  intro pins s σ H x v Q I rx h;obtain⟨i,rfl,q⟩:=h;obtain⟨t,rfl⟩:=rx;exact rule i t s _ _ ⟨.int (g i),H,I.tok _,⟨_,rfl⟩,q⟩
theorem Pl:Wu X (unaryOp .USub) (rU fun i=>.int (-i)):=unI fun _ _ _ _ _ q=>neg_int q
end
def HS:V→V→Bool
  |.non,.non=>true|.non,.int _=>true|.int _,.non=>true|.non,.bl _=>true|.bl _,.non=>true|.non,.str _=>true|.str _,.non=>true
  |.int _,.int _=>true|.bl _,.bl _=>true|.str _,.str _=>true|.HD _,.HD _=>true
  |.int _,.str _=>true|.str _,.int _=>true|.bl _,.str _=>true|.str _,.bl _=>true
  |_,_=>false
def rEq:R2:=fun x y H Q=>HS x y=true∧Q (.bl (decide (x=y))) H
def rNe:R2:=fun x y H Q=>HS x y=true∧Q (.bl (!decide (x=y))) H
theorem yX{i:Int}:decide (V.int i=V.int j)=(i==j):=by rw[Bool.eq_iff_iff];simp
theorem Cv{i j:Bool}:decide (V.bl i=V.bl j)=(i==j):=by rw[Bool.eq_iff_iff];simp
theorem yZ{i j:Str}:decide (V.str i=V.str j)=(i==j):=by rw[Bool.eq_iff_iff];simp
theorem Ea{i j:Array UInt8}:decide (V.HD i=V.HD j)=(i.toList==j.toList):=by rw[Bool.eq_iff_iff];cases i;cases j;simp
section
variable {X:Cx} {a b c:Expr} {ta tb tc:TE} {pos:Pos}
theorem bN{σ:St}{H:Hp}{Q:VK}{k k':Bool}(I:Inv X pins σ H s)(q:Q (.bl k) H)(e:k=k'):EP X pins σ Q (.bool k') s:=by subst e;exact⟨.bl k,H,I,rfl,q⟩
theorem NJ:nK X (compareOp .Eq) rEq:=by
  intro pins s σ H x y v u Q I rx ry h;obtain⟨hs,q⟩:=h;cases x with
  |non =>
   cases rx;cases y with
   |non=>cases ry;exact PySem.EqNone.eq_none_none (bN I q (by simp))
   |bl j=>cases ry;exact PySem.EqNone.eq_none_bool (bN I q (by simp))
   |int j=>obtain⟨t',rfl⟩:=ry;exact PySem.EqNone.eq_none_int (bN I q (by simp))
   |str j=>obtain⟨t',rfl⟩:=ry;exact PySem.EqNone.eq_none_str (bN I q (by simp))
   |_=>exact absurd (show false=true from hs) jZ
  |bl i =>
   cases rx;cases y with
   |non=>cases ry;exact PySem.EqNone.eq_bool_none (bN I q (by simp))
   |bl j=>cases ry;exact eq_bool (bN I q Cv)
   |str j=>obtain⟨t',rfl⟩:=ry;exact PySem.EqMixed.eq_bool_str (bN I q (by simp))
   |_=>exact absurd (show false=true from hs) jZ
  |int i =>
   obtain⟨t,rfl⟩:=rx;cases y with
   |non=>cases ry;exact PySem.EqNone.eq_int_none (bN I q (by simp))
   |int j=>obtain⟨t',rfl⟩:=ry;exact eq_int (bN I q yX)
   |str j=>obtain⟨t',rfl⟩:=ry;exact PySem.EqMixed.eq_int_str (bN I q (by simp))
   |_=>exact absurd (show false=true from hs) jZ
  |str i =>
   obtain⟨t,rfl⟩:=rx;cases y with
   |non=>cases ry;exact PySem.EqNone.eq_str_none (bN I q (by simp))
   |bl j=>cases ry;exact PySem.EqMixed.eq_str_bool (bN I q (by simp))
   |int j=>obtain⟨t',rfl⟩:=ry;exact PySem.EqMixed.eq_str_int (bN I q (by simp))
   |str j=>obtain⟨t',rfl⟩:=ry;exact eq_str (bN I q yZ)
   |_=>exact absurd (show false=true from hs) jZ
  |HD i =>
   obtain⟨t,rfl⟩:=rx;cases y with
   |HD j=>obtain⟨t',rfl⟩:=ry;exact PySem.W.eq_bytes (bN I q Ea)
   |_=>exact absurd (show false=true from hs) jZ
  |_=>cases y<;>exact absurd (show false=true from hs) jZ
theorem R8:nK X (compareOp .NotEq) rNe:=by
  intro pins s σ H x y v u Q I rx ry h;obtain⟨hs,q⟩:=h;cases x with
  |non =>
   cases rx;cases y with
   |non=>cases ry;exact PySem.EqNone.ne_none_none (bN I q (by simp))
   |bl j=>cases ry;exact PySem.EqNone.ne_none_bool (bN I q (by simp))
   |int j=>obtain⟨t',rfl⟩:=ry;exact PySem.EqNone.ne_none_int (bN I q (by simp))
   |str j=>obtain⟨t',rfl⟩:=ry;exact PySem.EqNone.ne_none_str (bN I q (by simp))
   |_=>exact absurd (show false=true from hs) jZ
  |bl i =>
   cases rx;cases y with
   |non=>cases ry;exact PySem.EqNone.ne_bool_none (bN I q (by simp))
   |bl j=>cases ry;exact ne_bool (bN I q (hJ not Cv))
   |str j=>obtain⟨t',rfl⟩:=ry;exact PySem.EqMixed.ne_bool_str (bN I q (by simp))
   |_=>exact absurd (show false=true from hs) jZ
  |int i =>
   obtain⟨t,rfl⟩:=rx;cases y with
   |non=>cases ry;exact PySem.EqNone.ne_int_none (bN I q (by simp))
   |int j=>obtain⟨t',rfl⟩:=ry;exact ne_int (bN I q (hJ not yX))
   |str j=>obtain⟨t',rfl⟩:=ry;exact PySem.EqMixed.ne_int_str (bN I q (by simp))
   |_=>exact absurd (show false=true from hs) jZ
  |str i =>
   obtain⟨t,rfl⟩:=rx;cases y with
   |non=>cases ry;exact PySem.EqNone.ne_str_none (bN I q (by simp))
   |bl j=>cases ry;exact PySem.EqMixed.ne_str_bool (bN I q (by simp))
   |int j=>obtain⟨t',rfl⟩:=ry;exact PySem.EqMixed.ne_str_int (bN I q (by simp))
   |str j=>obtain⟨t',rfl⟩:=ry;exact ne_str (bN I q (hJ not yZ))
   |_=>exact absurd (show false=true from hs) jZ
  |HD i =>
   obtain⟨t,rfl⟩:=rx;cases y with
   |HD j=>obtain⟨t',rfl⟩:=ry;exact PySem.W.ne_bytes (bN I q (hJ not Ea))
   |_=>exact absurd (show false=true from hs) jZ
  |_=>cases y<;>exact absurd (show false=true from hs) jZ
theorem NK:nK X (compareOp .Lt) (Ly fun i j=>.bl (decide (i<j))):=R6 fun _ _ _ _ _ _ _ q=>lt_int q
theorem R9:nK X (compareOp .Gt) (Ly fun i j=>.bl (decide (j<i))):=R6 fun _ _ _ _ _ _ _ q=>gt_int q
theorem HV:nK X (compareOp .Is) (fun x y H Q=>y=.non∧Q (.bl (decide (x=.non))) H):=by
  intro pins s σ H x y v u Q I rx ry h;obtain⟨rfl,q⟩:=h;cases ry;refine is_none_gen (bN I q ?_);cases x<;>first
    |(cases rx;rfl)
    |(obtain⟨t,rfl⟩:=rx;rfl)
theorem LC:nK X (compareOp .IsNot) (fun x y H Q=>y=.non∧Q (.bl (!decide (x=.non))) H):=by
  intro pins s σ H x y v u Q I rx ry h;obtain⟨rfl,q⟩:=h;cases ry;refine isnot_none_gen (bN I q ?_);cases x<;>first
    |(cases rx;rfl)
    |(obtain⟨t,rfl⟩:=rx;rfl)
theorem nK.or{f:Value→Value→Sem Value}{r r':R2}(h:nK X f r)(h':nK X f r'):nK X f (fun x y H Q=>r x y H Q∨r' x y H Q):=by
  intro pins s σ H x y v u Q I rx ry q;rcases q with q|q
  ·exact h pins s σ H x y v u Q I rx ry q
  ·exact h' pins s σ H x y v u Q I rx ry q
theorem mI(b:Expr)(h:op≠.In:=by decide)(h2:op≠.NotIn:=by decide):behindInMarks op b=false:=by
  have e1:(op==CmpOp.In)=false:=by cases op<;>first|rfl|exact absurd rfl h
  have e2:(op==CmpOp.NotIn)=false:=by cases op<;>first|rfl|exact absurd rfl h2
  cases b<;>simp[behindInMarks,e1,e2]
theorem LD{r:R2}(ho:nK X (compareOp op) r)(ha:PE X a ta)(hb:PE X b tb)(hm:behindInMarks op b=false):PE X (.Compare a [op] [b] pos) (R4 r ta tb):=by intro pins s σ H Q I h;exact wpAny_Compare1 (O5 ha hb I h fun v u s2 x y H2 I2 rx ry q=>ho pins s2 σ H2 x y v u Q I2 rx ry q) hm
def Sb(t:TE):TT:=fun σ H Q=>t σ H fun x H'=>∃k,x=.bl k∧Q k H'
theorem LG{r:R2}(ho:nK X (compareOp op) r)(ha:PE X a ta)(hb:PE X b tb)(hm:behindInMarks op b=false):PT X (.Compare a [op] [b] pos) (Sb (R4 r ta tb)):=by
  intro pins s σ H Q I h;refine wpAny_isTrue_Compare1 (fW (ha pins s σ H _ I h) fun v s1 ⟨x,H1,I1,r1,q1⟩=>fW (hb pins s1 σ H1 _ I1 q1) fun u s2 ⟨y,H2,I2,r2,q2⟩ =>
    fW (ho pins s2 σ H2 x y v u _ I2 r1 r2 q2) fun c s3 ⟨z,H3,I3,r3,k,e,q3⟩=>?_) hm
  subst e;cases r3;exact wpAny_truthy_bool ⟨H3,I3,q3⟩
theorem vf:(sizeLine:Nat)<2^63:=by rw[mD];decide
theorem vals1{x:V}(r:Vals [x] us):∃u,us=[u]∧RelV x u:=by
  cases r with
  |cons r1 r2=>cases r2;exact⟨_,rfl,r1⟩
theorem vals2{x y:V}(r:Vals [x,y] us):∃u w',us=[u,w']∧RelV x u∧RelV y w':=by
  cases r with
  |cons r1 r2 =>
   cases r2 with
   |cons r3 r4=>cases r4;exact⟨_,_,rfl,r1,r3⟩
end
structure LH (h:Heap) (x dx C:Addr) (mA:Str→fV):Prop where
  obj:h.get? x=some (instObj C dx)
  ns:h.Ns1 dx mA
  ne:dx≠x
theorem FX{dx:Addr}{mA:Str→fV}(n:h.Ns1 dx mA):∃od,h.get? dx=some od∧∀name,lookIn name od=some (mA name):=by
  obtain⟨o,es,ep,ho,hd,hk,_,hm⟩:=n;refine⟨o,ho,fun name=>?_⟩;have e:=hm name;unfold nsFind findBy at e;rw[←Array.find?_toList] at e;unfold lookIn;rw[hd];dsimp only;split
  ·rename_i y q;rw[q] at e;exact hJ some e
  · rename_i q;rw[q] at e;have a:es.toList.any (·.refKey)=false:=by
      rw[List.any_eq_false];intro y hy;obtain⟨z,t,Wv⟩:=hk y (Array.mem_toList_iff.mp hy);simp[DictEntry.refKey,Wv]
    have a':¬ es.toList.any (·.refKey)=true:=by rw[a];exact jZ
    rw[bS a'];exact hJ some e
theorem LH.look{x dx:Addr}{mA:Str→fV}(I:LH h x dx C mA):∃od,PySem.W.InstAt h x (instObj C dx) C (some od)∧∀name,lookIn name od=some (mA name) :=
  let ⟨od,ho,hl⟩:=FX I.ns
  ⟨od,⟨I.obj,rfl,rfl,ho⟩,hl⟩
section
variable {prog:Program} {w:World} {A:Around} {E:kX} {s:Shared} {K:PySem.W.Frag} {x dx C f:Addr} {mA:Str→fV} {name:Str} {v:Value}
theorem HW{Q:Value×dW→Shared→Prop}(X:K.In s.heap)(I:LH s.heap x dx C mA)(hg:plainGet K C name=true)(hf:PySem.W.findIn K (.ref C) name=some (some (.ref f)))(ht:isFn K (.ref f)=true)(hv:mA name=none)(h:Q (.ref f,[.ref x]) s):wpAny (model prog w) A (getMethod (.ref x) name pl) Q E s:=by
  obtain⟨od,J,hl⟩:=I.look;exact PySem.W.method_fn X J (plainGet_of hg).1 (plainGet_of hg).2 hf (qH.mp ht) (by show(lookIn name od).map (·.isSome)=some false;rw[hl,hv];rfl) h
theorem FY{R:Result→Shared→Prop}(X:K.In s.heap)(hm:makesIn K C=true)(hi:PySem.W.findIn K (.ref C) "__init__"=some (some (.builtin "object.__init__")))(hb:∀self,PySem.W.Looks (model prog w) s.heap (bindSpecial (.builtin "object.__init__") self) (.builtin "object.__init__",[self]))(h:codeAny (model prog w) (A.under (.builtin "type.__call__" ⟨[.ref C],[]⟩)) (.call (.builtin "object.__init__") ⟨[.ref (s.heap.objs.size+1)],[]⟩) (PySem.W.InitBack (s.heap.objs.size+1) R) { s with heap:=(s.heap.push emptyDict).push (instObj C s.heap.objs.size) }):codeAny (model prog w) A (.call (.ref C) ⟨[],[]⟩) R s:=by
  obtain⟨hh,g,d,t,os⟩:=s;exact PySem.W.make_core (makes_of X hm) (PySem.W.looks_findIn X hi) hb (.inr ⟨rfl,rfl⟩) h
end
theorem pA.some_of{v:V}{o:fV}(r:pA (some v) o):∃u,o=some u∧RelV v u:=by
  cases o with
  |none=>exact(show False from r).elim
  |some u=>exact⟨u,rfl,r⟩
theorem pA.none_of{o:fV}(r:pA none o):o=none:=by
  cases o with
  |none=>rfl
  |some u=>exact(show False from r).elim
section
variable {P:Program} {w:World} {H H':Hp} {h h':Heap} {a C dx:Addr} {fs fs':List (Str×V)}
theorem Eb(cf:oM P w H h)(e:H a=some (.ins C dx fs)):∃mA,LH h a dx C mA∧(∀f,pA (fs.lookup f) (mA f))∧PySem.Within mA (fs.map (·.1))∧fs.length≤1000∧H dx=some (.own a):=by
  obtain⟨d,z,ne,ob,mA,n,r,q⟩:=(show bU P w H h a (.ins C dx fs) from cf a _ e)
  exact⟨mA,⟨ob,n,ne⟩,r,q,z,d⟩
end
structure HX (K:PySem.W.Frag) (C:Addr):Prop where
  pg:plainGet K C Str.empty=true
  hd:hasDictIn K C=true
  po:plainOver K C=true
  sa:PySem.W.findIn K (.ref C) "__setattr__"=some (some (.builtin "object.__setattr__"))
theorem HX.get{K:PySem.W.Frag}(c:HX K C)(f:Str):plainGet K C f=true:=c.pg
structure Con (K:PySem.W.Frag) (C:Addr) (f:Str) (v:V) (u:Value):Prop where
  at_:PySem.W.findIn K (.ref C) f=some (some u)
  rel:RelV v u
  get:PySem.W.specialIn K u "__get__"=some none
  cp:PySem.W.copiedNames.contains f=false
structure Meth (K:PySem.W.Frag) (C:Addr) (m:Str) (f:Addr):Prop where
  at_:PySem.W.findIn K (.ref C) m=some (some (.ref f))
  fn:isFn K (.ref f)=true
  kp:keepIn K (.ref f)=true
section
variable {X:Cx} {pins:jc} {σ:St} {H:Hp} {s:Shared} {a C dx:Addr} {fs:List (Str×V)} {f:Str} {v:V} {A:Around} {E:kX}
theorem vg{m:Str}{g:Addr}{Q:Value×dW→Shared→Prop}(I:Inv X pins σ H s)(e:H a=some (.ins C dx fs))(c:HX X.K C)(k:Meth X.K C m g)(l:fs.lookup m=none)(h:Q (.ref g,[.ref a]) s):wpAny (model X.prog X.w) A (getMethod (.ref a) m pl) Q E s:=by
  obtain⟨mA,O,r,_,_,_⟩:=Eb I.cf e;have hn:mA m=none:=pA.none_of (by rw[←l];exact r m);exact HW I.qI O (c.get m) k.at_ k.fn hn h
theorem Inv.made(I:Inv X pins σ H s):Inv X pins σ (upd (upd H s.heap.objs.size (.own (s.heap.objs.size+1))) (s.heap.objs.size+1) (.ins C s.heap.objs.size [])) { s with heap:=(s.heap.push emptyDict).push (instObj C s.heap.objs.size) }:=by
  have e1:(s.heap.push emptyDict).get? s.heap.objs.size=some emptyDict:=lO s.heap rfl;have e2:((s.heap.push emptyDict).push (instObj C s.heap.objs.size)).get? (s.heap.objs.size+1)=some (instObj C s.heap.objs.size):=by have:=lO (s.heap.push emptyDict) (o:=instObj C s.heap.objs.size) rfl;rwa[Heap.size_push] at this
  have e3:(s.heap.push emptyDict).Ns s.heap.objs.size (fun _=>none):=⟨emptyDict,#[],_,e1,rfl,(fun e he=>absurd he (by simp)),fun _=>rfl⟩
  have I1:=I.laid (a:=s.heap.objs.size) (o:=.own (s.heap.objs.size+1)) (h':=s.heap.push emptyDict) (t':=s.toks) (fun b u q=>nE _ q) (cN _) ⟨_,e1⟩;refine I1.laid (a:=s.heap.objs.size+1) (o:=.ins C s.heap.objs.size []) (t':=s.toks) (fun b u q=>nE _ q) (Nat.le_of_eq (Heap.size_push _ _)) ?_;have ne:s.heap.objs.size≠s.heap.objs.size+1:=iP (Nat.lt_succ_self _);refine⟨by rw[ay ne,aI],pY _,ne,e2,fun _=>none,(Heap.Ns1.of_empty e3).at fun o q=>nE _ q,fun _=>True.intro,fun y hy=>absurd rfl hy⟩
end
section
variable {X:Cx} {o e value:Expr} {f:Str} {pos pos' HY:Pos} {ta tv:TE}
theorem Ax{m:Str}{apos:Pos}{args:List Expr}{σ:St}{H:Hp}{te:TE}(he:PE X e te)(I:Inv X pins σ H s)(h:te σ H fun x H1=>∃a C dx fs g,x=.ref a∧H1 a=some (.ins C dx fs)∧HX X.K C∧Meth X.K C m g∧fs.lookup m=none∧∀s1,Inv X pins σ H1 s1→wpAny (model X.prog X.w) X.A (callWith pos (.ref g) [.ref a] (backTo pos (starEach args X.env)) (backToKw pos (keywordEach [] X.env))) Q X.xe s1)(ht:eval (.Call (.Attribute e m apos) args [] pos) X.env=(do
      let ov ←eval e X.env
      standAt apos.atName
      let (f,first) ←holding [ov] (getMethod ov m pl)
      callWith pos f first (backTo pos (starEach args X.env)) (backToKw pos (keywordEach [] X.env)))):wpAny (model X.prog X.w) X.A (eval (.Call (.Attribute e m apos) args [] pos) X.env) Q X.xe s:=by
  refine methodCall_KW (pl:=pl) (fW (he pins s σ H _ I h) fun u s1 hh=>?_) ht;obtain⟨x,H1,I1,rx,a,C,dx,fs,g,ex,ea,c,k,l,q⟩:=hh;subst ex;obtain rfl:u=Value.ref a:=rx;exact vg I1 ea c k l (q s1 I1)
end
section
variable {X:Cx} {pins:jc} {σ:St} {H:Hp} {s:Shared} {A:Around} {E:kX} {Q:kX} {c:Value} {b:Bool}
inductive pD (K:PySem.W.Frag) (H:Hp):V→Value→Prop where
  |non:pD K H .non (.type "NoneType")
  |bl (x:Bool):pD K H (.bl x) (.type "bool")
  |int (i:Int):pD K H (.int i) (.type "int")
  |str (x:Str):pD K H (.str x) (.type "str")
  |Rh (x:UInt64):pD K H (.Rh x) (.type "float")
  |lst {a:Addr} {xs:List V} (e:H a=some (.lst xs)):pD K H (.ref a) (.type "list")
  |pM {a:Addr} {o:Obj} {xs:List V} (e:H a=some (.pM o (.lst xs))):pD K H (.ref a) (.type "list")
  |kl {a:Addr} {o:Obj} (hk:K.lookup a=some o) (hc:o.cls=.type "list"):pD K H (.ref a) (.type "list")
  |tup {a:Addr} {xs:List V} (e:H a=some (.tup xs)):pD K H (.ref a) (.type "tuple")
  |dK {a:Addr} {aW:List (Key×V)} (e:H a=some (.dK aW)):pD K H (.ref a) (.type "dict")
  |dT {a:Addr} {aW:List (List Key×V)} (e:H a=some (.dT aW)):pD K H (.ref a) (.type "dict")
  |ins {a C dx:Addr} {fs:List (Str×V)} (e:H a=some (.ins C dx fs)) (cl:HX K C) (ha:PySem.W.findIn K (.ref C) "__class__"=some (some (.builtin "object.__class__")))
      (hn:PySem.W.specialIn K (.builtin "object.__class__") "__get__"=some (some (.builtin "getset_descriptor.__get__"))) (NM:PySem.W.takesIn K (.builtin "object.__class__")=some true)
      (hm:PySem.W.mroIn K C (.type "object")=some true):pD K H (.ref a) (.ref C)
theorem x5{x:V}{t:Value}(I:Inv X pins σ H s)(rx:RelV x u)(ty:pD X.K H x t)(e:PySem.W.kitOne X.K t c=some b)(h:∀tk,Q (.bool b) { s with toks:=tk }):wpAny (model X.prog X.w) A (call (.builtin "isinstance") [u,c]) Q E s:=by
  cases ty with
  |non=>cases(show u=Value.none from rx);exact ur PySem.W.kitx_none I.qI True.intro e (fun z=>nomatch z) h
  |bl y=>cases(show u=Value.bool y from rx);exact ur PySem.W.kitx_bool I.qI True.intro e (fun z=>nomatch z) h
  |int i=>obtain⟨t,q⟩:=(show ∃t,u=Value.int i t from rx);cases q;exact ur PySem.W.kitx_int I.qI True.intro e (fun z=>nomatch z) h
  |str y=>obtain⟨t,q⟩:=(show ∃t,u=Value.str y t from rx);cases q;exact ur PySem.W.kitx_str I.qI True.intro e (fun z=>nomatch z) h
  |Rh y=>obtain⟨t,q⟩:=(show ∃t,u=Value.float y t from rx);cases q;exact ur PySem.W.kitx_float I.qI True.intro e (fun z=>nomatch z) h
  |@lst a xs ea =>
   cases(show u=Value.ref a from rx);obtain⟨_,_,n,_,h1⟩:=(show bU X.prog X.w H s.heap a (.lst xs) from I.cf a _ ea)
   exact ur kitx_list I.qI ⟨_,h1,rfl⟩ e (fun z=>nomatch z) h
  |@pM a ob xs ea =>
   cases(show u=Value.ref a from rx);obtain⟨_,_,_,n,_,h1⟩:=(show bU X.prog X.w H s.heap a (.pM ob (.lst xs)) from I.cf a _ ea)
   exact ur kitx_list I.qI ⟨_,h1,rfl⟩ e (fun z=>nomatch z) h
  |@kl a o hk hc=>cases(show u=Value.ref a from rx);exact ur kitx_list I.qI ⟨o,I.qI a o hk,hc⟩ e (fun z=>nomatch z) h
  |@tup a xs ea =>
   cases(show u=Value.ref a from rx);obtain⟨_,_,_,p⟩:=(show bU X.prog X.w H s.heap a (.tup xs) from I.cf a _ ea)
   obtain⟨o,h1,h2,_⟩:=p;exact ur PySem.W.kitx_tuple I.qI ⟨o,h1,h2⟩ e (fun z=>nomatch z) h
  |@dK a aW ea =>
   cases(show u=Value.ref a from rx);obtain⟨_,_,vs,_,p⟩:=(show bU X.prog X.w H s.heap a (.dK aW) from I.cf a _ ea)
   obtain⟨o,es,ep,h1,h2,_⟩:=p;exact ur kitx_dict I.qI ⟨o,h1,h2.1⟩ e (fun z=>nomatch z) h
  |@dT a aW ea =>
   cases(show u=Value.ref a from rx);obtain⟨_,_,xs,_,o,es,ep,h1,h2,_⟩:=(show bU X.prog X.w H s.heap a (.dT aW) from I.cf a _ ea)
   exact ur kitx_dict I.qI ⟨o,h1,h2.1⟩ e (fun z=>nomatch z) h
  |@ins a C dx fs ea cl ha hn NM hm=>cases(show u=Value.ref a from rx);obtain⟨mA,O,_⟩:=Eb I.cf ea;obtain⟨od,J,_⟩:=O.look;exact ur (PySem.W.kitx_own (cl.get _) cl.hd ha hn NM hm) I.qI J e (fun z=>nomatch z) h
end
structure eW (k:Nat) (A:Around):Prop where
  hd:A.handled=none
  dp:A.depth+3*k+5<recursionLimit
  un:A.units+16*k+200<cLine
theorem eW.mono{j:Nat}(r:eW k A)(h:j≤k):eW j A:=⟨r.hd,by have:=r.dp;omega,by have:=r.un;omega⟩
theorem eW.deeper(r:eW (k+1) A)(env:Env):eW k (A.deeper env) :=
  ⟨r.hd,by have:=r.dp;show A.depth+1+3*k+5<_;omega,by have:=r.un;show A.units+3+16*k+200<_;omega⟩
theorem eW.in1(r:eW (k+1) A):eW k A.in1 :=
  ⟨r.hd,by have:=r.dp;show A.depth+3*k+5<_;omega,by have:=r.un;show A.units+1+16*k+200<_;omega⟩
theorem eW.depth(r:eW k A):A.depth<recursionLimit:=by have:=r.dp;omega
theorem eW.units(r:eW k A):A.units+64<cLine:=by have:=r.un;omega
def Ww:TA:=fun _ H Q=>Q [] H
def Sd(ta:TE)(tr:TA):TA:=fun σ H Q=>ta σ H fun x H1=>tr σ H1 fun xs H2=>Q (x::xs) H2
section
variable {X:Cx} {e:Expr} {es:List Expr} {te:TE} {t:TA} {pos:Pos}
theorem gC:PA X [] Ww:=fun _ _ _ _ H Q I h=>Calls.spliced_nil ⟨[],H,I,.nil,h⟩
theorem cF(ha:PE X e te)(hr:PA X es t)(hs:starEach (e::es) X.env=(false,eval e X.env)::starEach es X.env:=by rfl):PA X (e::es) (Sd te t):=by intro pos pins s σ H Q I h;rw[hs];show wpAny _ _ (spliced ((false,eval e X.env)::backTo pos (starEach es X.env))) _ _ s;refine Calls.spliced_cons (fW (ha pins s σ H _ I h) fun u s1 ⟨x,H1,I1,r1,q1⟩=>?_);exact fW (hr pos pins s1 σ H1 _ I1 q1) fun us s2 ⟨xs,H2,I2,r2,q2⟩=>⟨x::xs,H2,I2,.cons r1 r2,q2⟩
def Wx(t:TA):TE:=fun σ H Q=>t σ H fun xs H1=>xs.length≤sizeLine∧∀p,H1 p=none→Q (.ref p) (upd H1 p (.tup xs))
def Wy(t:TA):TE:=fun σ H Q=>t σ H fun xs H1=>xs.length≤sizeLine∧∀p,H1 p=none→Q (.ref p) (upd H1 p (.lst xs))
theorem Pm{x1}(h:PA X es t):PE X (.Tuple es x1 pos) (Wx t):=by intro pins s σ H Q I hq;refine wpAny_Tuple_spliced (fW (h pos pins s σ H _ I hq) fun us s1 ⟨xs,H1,I1,r,z,q⟩=>⟨by rw[←r.length];exact z,?_⟩);have hf:H1 s1.heap.objs.size=none:=I1.cf.fresh (cN _);refine⟨.ref s1.heap.objs.size,upd H1 s1.heap.objs.size (.tup xs),I1.laid (t':=s1.toks) (fun b u e=>nE _ e) (cN _) ?_,rfl,q _ hf⟩;exact⟨z,us,r,⟨_,lO _ rfl,rfl,_,rfl⟩⟩
theorem Pn(h:PA X es t):PE X (.List es pos) (Wy t):=by intro pins s σ H Q I hq;refine wpAny_List_spliced (fW (h pos pins s σ H _ I hq) fun us s1 ⟨xs,H1,I1,r,z,q⟩=>⟨by rw[←r.length];exact z,?_⟩);have hf:H1 s1.heap.objs.size=none:=I1.cf.fresh (cN _);refine⟨.ref s1.heap.objs.size,upd H1 s1.heap.objs.size (.lst xs),I1.laid (t':=s1.toks) (fun b u e=>nE _ e) (cN _) ?_,rfl,q _ hf⟩;exact⟨z,us,0,r,lO _ rfl⟩
end
abbrev Sp:=List V→Hp→VK→XK→Prop
abbrev Ec:=List Env→Hp→Shared→XK→kX
structure FZ (P:Program) (w:World) (K:PySem.W.Frag) (mg:Str→fV) (base:Heap) (A:Around) (outer:List Env) (s:Shared) (H:Hp):Prop where
  frames:A.frames=some outer
  mod:Mod K mg base
  bs:∀b o,base.get? b=some o→s.heap.get? b=some o∧H b=none
  Lb:base.objs.size≤s.heap.objs.size
  pZ:s.heap.FunFrames base outer
  Lc:∀b∈nJ outer,H b=none
  cf:oM P w H s.heap
  bare:AllBare s.gens
def CE(outer:List Env)(P:Program)(w:World)(H:Hp)(s:Shared)(Q:VK)(u:Value)(s':Shared):Prop :=
  ∃v H',s'.os=s.os∧AllBare s'.gens∧Un (nJ outer) [] H H' s.heap s'.heap∧oM P w H' s'.heap∧RelV v u∧Q v H'
def CR(CX:Ec)(outer:List Env)(P:Program)(w:World)(H:Hp)(s:Shared)(Q:VK)(E:XK)(r:Result)(s':Shared):Prop :=
  match r with
  |.ok (.ret u)=>CE outer P w H s Q u s'
  |.ok _=>False
  |.error e=>CX outer H s E e s'
structure dw (P:Program) (w:World) (K:PySem.W.Frag) (mg:Str→fV) (base:Heap) (CX:Ec) (k:Nat) (f:Addr) (fd:FuncData) (ps:g7) (sp:Sp):Prop where
  len:∀vs H Q E,sp vs H Q E→vs.length=ps.length
  run:∀(A:Around) (outer:List Env) (s:Shared) (H:Hp) (args:Args) (us:dW) (vs:List V) (Q:VK) (E:XK),eW k A→FZ P w K mg base A outer s H→BindsTo s fd args (ps.zip us)→Vals vs us→sp vs H Q E →
    codeAny (model P w) A (.call (.ref f) args) (CR CX outer P w H s Q E) s
theorem dw.imp{K:PySem.W.Frag}{base:Heap}{CX:Ec}{ps:g7}{sp sp':Sp}(F:dw P w K mg base CX k f fd ps sp)(h:∀vs H Q E,sp' vs H Q E→sp vs H Q E):dw P w K mg base CX k f fd ps sp' :=
  ⟨fun vs H Q E q=>F.len vs H Q E (h _ _ _ _ q),fun A outer s H args us vs Q E hr he hb hv hs=>F.run A outer s H args us vs Q E hr he hb hv (h _ _ _ _ hs)⟩
section
variable {X:Cx} {pins:jc} {σ:St} {H:Hp} {s s':Shared}
theorem Inv.LJ(I:Inv X pins σ H s):FZ X.prog X.w X.K X.mg X.base X.A X.stack s H :=
  ⟨I.ok.frames,I.ok.mod,I.bs,qG I.ok.Lb I.sz,I.stack,I.uL,I.cf,I.bare⟩
theorem Inv.after{Q:VK}(I:Inv X pins σ H s)(h:CE X.stack X.prog X.w H s Q u s'):EP X pins σ Q u s':=by obtain⟨v,H',os,bare,un,cf,r,q⟩:=h;obtain⟨hh,g,d,t,os'⟩:=s';obtain rfl:os'=s.os:=os;exact⟨v,H',I.call (h':=hh) (g':=g) (d':=d) (t':=t) (ch:=[]) un cf bare (fun b z=>absurd z (by simp)),r,q⟩
end
def HZ(sp:Sp)(dvs:List V)(E:XK)(t:TA):TE:=fun σ H Q=>t σ H fun vs H1=>sp (vs++dvs) H1 Q E
def Binds(K:PySem.W.Frag)(fd:FuncData)(ps:g7)(ds:dW):Prop :=
  ∀(s:Shared) (us:dW),K.In s.heap→(us++ds).length=ps.length→BindsTo s fd ⟨us,[]⟩ (ps.zip (us++ds))
theorem Binds.all{K:PySem.W.Frag}{ps:g7}(h:∀us:dW,us.length=ps.length→bindArgs fd ⟨us,[]⟩=pure (ps.zip us)):Binds K fd ps []:=fun s us _ hl=>by rw[uv] at hl⊢;exact .of_eq (h us hl)
def Passes(CX:Ec)(X:Cx)(E:XK):Prop:=∀(pins:jc) (σ:St) (H:Hp) (s:Shared) (e:Value) (s':Shared),Inv X pins σ H s→CX X.stack H s E e s'→X.xe e s'
section
variable {X:Cx} {CX:Ec} {k:Nat} {f C:Addr} {fd:FuncData} {ps:g7} {sp:Sp} {dvs:List V} {ds:dW} {E:XK} {x m:Str} {p pos apos:Pos} {e o:Expr} {es:List Expr} {ta:TE} {t:TA}
theorem Ia{σ:St}{H:Hp}{Q:VK}{vs:List V}(F:dw X.prog X.w X.K X.mg X.base CX k f fd ps sp)(hr:eW k X.A)(hb:Binds X.K fd ps ds)(hd:Vals dvs ds)(hx:Passes CX X E)(I:Inv X pins σ H s)(r:Vals vs us)(h:sp (vs++dvs) H Q E):wpAny (model X.prog X.w) X.A (call (.ref f) us) (EP X pins σ Q) X.xe s:=by
  have r2:Vals (vs++dvs) (us++ds):=r.append hd;have hl:(us++ds).length=ps.length:=by rw[←r2.length];exact F.len _ _ _ _ h
  refine wpAny_call (codeAny_mono (F.run X.A X.stack s H ⟨us,[]⟩ (us++ds) (vs++dvs) Q E hr I.LJ (hb s us I.qI hl) r2 h) fun r s' hq=>?_);cases r with
  |error e=>exact hx pins σ H s e s' I hq
  |ok fl =>
   cases fl with
   |ret u=>exact I.after hq
   |next=>exact False.elim hq
   |brk=>exact False.elim hq
   |cont=>exact False.elim hq
theorem Ed(F:dw X.prog X.w X.K X.mg X.base CX k f fd ps sp)(hr:eW k X.A)(hg:Gl X x)(hm:X.mg x=some (.ref f))(hk:keepIn X.K (.ref f)=true)(hb:Binds X.K fd ps ds)(hd:Vals dvs ds)(hx:Passes CX X E)(ha:PA X (e::es) t)(lU:(x==("__debug__":Str))=false:=by decide)(he:starEach (e::es) X.env=(false,eval e X.env)::starEach es X.env:=by rfl)(jz:(backTo pos (starEach es X.env)).any (·.1)=false:=by rfl):PE X (.Call (.Name x p) (e::es) [] pos) (HZ sp dvs E t):=by
  intro pins s σ H Q I h;refine wpAny_Call_Name_kw (qJ I hg hm ?_ lU);refine callWith_K (h₀:=X.base) I.ok.mod.Nx hk (fW (ha pos pins s σ H _ I h) fun us s1 ⟨vs,H1,I1,r,q⟩=>⟨I1.qI,?_⟩) he jz;exact Ia F hr hb hd hx I1 r q
structure Mk (K:PySem.W.Frag) (C f:Addr):Prop where
  makes:makesIn K C=true
  init:PySem.W.findIn K (.ref C) "__init__"=some (some (.ref f))
  fn:isFn K (.ref f)=true
  kp:keepIn K (.ref C)=true
end
section
variable {X:Cx} {CX:Ec} {k:Nat} {f C:Addr} {fd:FuncData} {ps ks:g7} {sp:Sp} {E:XK} {x m:Str} {p pos apos adR:Pos} {e o:Expr} {es:List Expr} {kws:List Keyword} {te ta:TE} {t tk:TA} {nm:Option Str}
structure Wz (K:PySem.W.Frag) (fd:FuncData) (ps ks:g7) (g:dW→dW→dW) (gV:List V→List V→List V):Prop where
  to:∀(s:Shared) (us ws:dW),K.In s.heap→(g us ws).length=ps.length→BindsTo s fd ⟨us,ks.zip ws⟩ (ps.zip (g us ws))
  rel:∀{vs:List V} {us:dW} {zs:List V} {ws:dW},Vals vs us→Vals zs ws→Vals (gV vs zs) (g us ws)
variable {g:dW→dW→dW} {gV:List V→List V→List V}
end
structure bB (N P:g7) (sc:Scope):Prop where
  kind:sc.kind=.function
  co:sc.isCoroutine=false
  gen:sc.isGenerator=false
  nd:N.Nodup
  pre:N.take P.length=P
  par:∀x∈P,sc.names.lookup x=some .local∨sc.names.lookup x=some .cell
  Pp:∀y∈sc.names,y.2≠.free
theorem x8{kindOf:Str→Option NameKind}{x:Str}:∀{binds:List (Str×Value)} {m:Str→fV},(∀v,(x,v)∉binds)→bindL kindOf binds m x=m x
  |[],_,_=>rfl
  |(n,v)::r,m,h=>by
   unfold bindL;rw[x8 fun w hw=>h w (h9 _ hw)];split
   · have:x≠n:=by rintro rfl;exact h v hI
     simp[this]
   ·rfl
theorem x9{kindOf:Str→Option NameKind}{x:Str}:∀{binds:List (Str×Value)} {m:Str→fV},(∀v,(x,v)∉binds)→bindC kindOf binds m x=m x
  |[],_,_=>rfl
  |(n,v)::r,m,h=>by
   unfold bindC;rw[x9 fun w hw=>h w (h9 _ hw)];split
   ·rfl
   · have:x≠n:=by rintro rfl;exact h v hI
     simp[this]
theorem ya{kindOf:Str→Option NameKind}{x:Str}{v:Value}:∀{P:g7} {vs:dW} {i:Nat} {m:Str→fV},P.Nodup→P[i]?=some x→vs[i]?=some v→kindOf x=some .local→bindL kindOf (P.zip vs) m x=some v
  |[],_,_,_,_,h,_,_=>by simp at h
  |_::_,[],_,_,_,_,h,_=>by simp at h
  |p::P,w::vs,0,m,nd,h1,h2,hk=>by simp at h1 h2;subst h1;subst h2;show bindL kindOf ((p,w)::P.zip vs) m p=_;unfold bindL;rw[x8 fun v hv=>(List.nodup_cons.mp nd).1 (List.of_mem_zip hv).1,bR hk];simp
  |p::P,w::vs,i+1,m,nd,h1,h2,hk=>by show bindL kindOf ((p,w)::P.zip vs) m x=_;unfold bindL;exact ya (i:=i) (List.nodup_cons.mp nd).2 (by simpa using h1) (by simpa using h2) hk
theorem yb{kindOf:Str→Option NameKind}{x:Str}{v:Value}:∀{P:g7} {vs:dW} {i:Nat} {m:Str→fV},P.Nodup→P[i]?=some x→vs[i]?=some v→kindOf x≠some .local→bindC kindOf (P.zip vs) m x=some v
  |[],_,_,_,_,h,_,_=>by simp at h
  |_::_,[],_,_,_,_,h,_=>by simp at h
  |p::P,w::vs,0,m,nd,h1,h2,hk=>by simp at h1 h2;subst h1;subst h2;show bindC kindOf ((p,w)::P.zip vs) m p=_;unfold bindC;rw[x9 fun v hv=>(List.nodup_cons.mp nd).1 (List.of_mem_zip hv).1,bS hk];simp
  |p::P,w::vs,i+1,m,nd,h1,h2,hk=>by show bindC kindOf ((p,w)::P.zip vs) m x=_;unfold bindC;exact yb (i:=i) (List.nodup_cons.mp nd).2 (by simpa using h1) (by simpa using h2) hk
def start(N:g7)(vs:List V):St:=vs.map some++List.replicate (N.length-vs.length) none
def cX(CX:Ec)(P:Program)(w:World)(K:PySem.W.Frag)(mg:Str→fV)(base:Heap)(N:g7)(qual:Str)(scope:Scope)(f:Addr)(cd:Value)(A:Around)(outer:List Env)(s:Shared)(H:Hp)(E:XK):Cx where
  prog:=P
  w:=w
  K:=K
  mg:=mg
  base:=base
  A:=A.deeper (envOfC qual scope s.heap.objs.size f cd)
  N:=N
  s₀:=s
  H₀:=H
  env:=envOfC qual scope s.heap.objs.size f cd
  outer:=outer
  stack:=envOfC qual scope s.heap.objs.size f cd::outer
  ex:=[]
  calm:=true
  fn:=fun _=>true
  pn:=[]
  xe:=fun e s'=>wpAny (model P w) (A.deeper (envOfC qual scope s.heap.objs.size f cd)) (leaving (envOfC qual scope s.heap.objs.size f cd) e) (fun _ uy=>CX outer H s E e uy) (fun e' uy=>CX outer H s E e' uy) s'
theorem Ay{sc:Scope}(h:sc.names.lookup x=some .cell):∃c,(cellsFrom n sc.names []).lookup x=some c:=by have q:=cellsFrom_some sc.names n [] (.inl h);exact Option.isSome_iff_exists.mp q
theorem yc{CX:Ec}{K:PySem.W.Frag}{base:Heap}{ps:g7}{cd:Value}{outer:List Env}{s1:Shared}{H:Hp}{E:XK}{vs:List V}(S:bB N ps scope)(hd:A.handled=none)(e0:FZ P w K mg base A outer s H)(hl:vs.length=ps.length)(r:Vals vs us)(x:InCallC s s.heap.objs.size (bindL (envOfC qual scope s.heap.objs.size f cd).kindOf (ps.zip us) fun _=>none) (cellsFrom (s.heap.objs.size+1) scope.names []) (bindC (envOfC qual scope s.heap.objs.size f cd).kindOf (ps.zip us) fun _=>none) s1):Inv (cX CX P w K mg base N qual scope f cd A outer s H E) [] (start N vs) H s1:=by
  have jz:ps.length≤N.length:=by have:=hJ List.length S.pre;rw[List.length_take] at this;omega
  obtain⟨h1,tk,rfl,hk⟩:=x.done;have Se:∀b:Addr,b∉(cX CX P w K mg base N qual scope f cd A outer s H E).ex:=fun b z=>absurd (show b∈([]:List Addr) from z) (by simp);refine⟨⟨e0.mod,S.kind,rfl,rfl,cN _,fun y z c h1 h2=>?_,fun y hy=>?_,fun y c _ h=>?_,fun _=>hd,Around.frames_deeper e0.frames,.inr ⟨rfl,rfl⟩,fun b z=>absurd z (Se b),e0.bs,e0.Lb,fun b _ _=>Se b,fun b z=>absurd z (Se b),e0.pZ,e0.Lc⟩,
    rfl,e0.bare,Un.kept hk,⟨_,x.toInCall.ns,fun i y v h1 h2 h3=>?_⟩,fun y c h=>⟨_,x.cell y c h⟩,e0.cf.fresh (cN _),fun y c h=>?_,fun p hp=>absurd (show p∈([]:jc) from hp) (by simp),e0.cf.kept hk,?_⟩
  ·exact name_of_addr x.apart (PySem.mem_of_lookup h1) (PySem.mem_of_lookup h2)
  · have hy:scope.names.lookup y=some .cell∨scope.names.lookup y=some .free:=hy;rcases hy with hy|hy
    ·exact Ay hy
    ·exact absurd rfl (S.Pp _ (PySem.mem_of_lookup hy))
  ·exact Nat.le_of_lt (x.above y c (PySem.mem_of_lookup h))
  · have hi:i<vs.length:=by
      unfold start at h2;by_cases hi:i<vs.length
      ·exact hi
      ·rw[FJ (by simpa using hi)] at h2;rw[List.getElem?_replicate] at h2;split at h2<;>cases h2
    have ha:vs[i]?=some v:=by
      unfold start at h2;rw[List.getElem?_append_left (by simpa using hi),nI] at h2;cases e:vs[i]? with
      |none=>rw[e] at h2;cases h2
      |some a=>rw[e] at h2;cases h2;rfl
    obtain⟨u,hu,rv⟩:=r.get ha;have hp:ps[i]?=some y:=by rw[←S.pre,List.getElem?_take_of_lt (by omega)];exact h1
    have ndP:ps.Nodup:=by rw[←S.pre];exact S.nd.sublist (List.take_sublist _ _)
    refine⟨u,rv,?_⟩;rcases S.par y (List.mem_of_getElem? hp) with k|k
    ·exact .inl ⟨k,ya ndP hp hu k⟩
    ·obtain⟨c,e⟩:=Ay (n:=s.heap.objs.size+1) k;refine .inr ⟨.inl k,c,e,?_⟩;have q:=x.cell y c e;rw[yb ndP hp hu (by show scope.names.lookup y≠_;rw[k];decide)] at q;exact q
  ·exact e0.cf.fresh (Nat.le_of_lt (x.above y c (PySem.mem_of_lookup h)))
  ·unfold start;show _=N.length;rw[uq,dX,List.length_replicate];omega
theorem Ee{CX:Ec}{K:PySem.W.Frag}{base:Heap}{name:Str}{dV kV doc fT:Value}{ps:g7}{sp:Sp}(lk:K.lookup f=some ⟨oc,od,.func (fnOf name qual params body scope dV kV doc pm an fT ct),HC⟩)(ji:codeIn K fT qual=true)(S:bB N ps scope)(len:∀vs H Q E,sp vs H Q E→vs.length=ps.length)(vh:∀(A:Around) (outer:List Env) (s:Shared) (H:Hp) (vs:List V) (Q:VK) (E:XK),eW k (A.deeper (envOfC qual scope s.heap.objs.size f fT))→sp vs H Q E→∃t,xZ (cX CX P w K mg base N qual scope f fT A outer s H E) body t∧t { nx:=fun _ H'=>Q .non H',rt:=Q } (start N vs) H):dw P w K mg base CX (k+1) f (fnOf name qual params body scope dV kV doc pm an fT ct) ps sp:=by
  refine⟨len,fun A outer s H args us vs Q E hr e0 hb r NP=>?_⟩;have hl:=len _ _ _ _ NP;have KX:K.In s.heap:=e0.mod.Nx.keeps fun b o e=>(e0.bs b o e).1;have lim:s.heap.NoLimit:=e0.mod.nolimit.keeps fun b o e=>(e0.bs b o e).1;have Ib:∀y∈ps.zip us,scope.names.lookup y.1=some .local∨(scope.names.lookup y.1=some .cell∧((cellsFrom (s.heap.objs.size+1) scope.names []).lookup y.1).isSome=true):=fun⟨n,v⟩ hy=>by
    rcases S.par n (List.of_mem_zip hy).1 with q|q
    ·exact .inl q
    ·exact .inr ⟨q,cellsFrom_some _ _ _ (.inl q)⟩
  refine codeAny_call_function hr.depth (KX _ _ lk) rfl S.co S.gen rfl (PySem.W.codeRec_of KX ji) (hb _ _ _ _ ?_);refine wpAny_newFunctionEnv_cells S.kind Ib fun env he s1 x=>?_;subst he;refine⟨lim.keeps x.toInCall.keep,codeAny_func ?_⟩;obtain⟨t,ht,hq⟩:=vh A outer s H vs Q E (hr.deeper _) NP;have I:Inv (cX CX P w K mg base N qual scope f fT A outer s H E) [] (start N vs) H s1:=yc S hr.hd e0 hl r x;refine j4 (ht [] s1 (start N vs) H _ I hq) (fun fl s' hs=>?_) fun e s' hs=>hs;have fin:∀{σ':St} {H':Hp} {v:V} {u:Value},Inv (cX CX P w K mg base N qual scope f fT A outer s H E) [] σ' H' s'→RelV v u→Q v H'→CE outer P w H s Q u s' :=
    fun {σ' H' v u} J rv q=>⟨v,H',J.os,J.bare,J.base,J.cf,rv,q⟩
  cases fl with
  |ret u=>obtain⟨v,σ',H',J,rv,q⟩:=hs;exact fin J rv q
  |next=>obtain⟨σ',H',J,q⟩:=hs;exact fin (v:=V.non) (u:=Value.none) J rfl q
  |brk=>obtain⟨_,_,_,q⟩:=hs;exact False.elim q
  |cont=>obtain⟨_,_,_,q⟩:=hs;exact False.elim q
section
variable {X:Cx} {x:Str} {p pos:Pos} {e:Expr} {es:List Expr} {t:TA} {id T:String} {r:List V→Hp→VK→Prop}
def tCB(r:List V→Hp→VK→Prop)(t:TA):TE:=fun σ H Q=>t σ H fun vs H1=>r vs H1 Q
theorem iQ(hc:lT X (.builtin id) r)(hg:Gl X x)(hm:X.mg x=none)(hv:bootBuiltins x=some (.builtin id))(ha:PA X (e::es) t)(hn:x≠"__name__":=by decide)(lU:(x==("__debug__":Str))=false:=by decide)(he:starEach (e::es) X.env=(false,eval e X.env)::starEach es X.env:=by rfl)(jz:(backTo pos (starEach es X.env)).any (·.1)=false:=by rfl):PE X (.Call (.Name x p) (e::es) [] pos) (tCB r t):=by
  intro pins s σ H Q I h;refine wpAny_Call_Name_kw (p6 I hg hm hv ?_ hn lU);exact PyProof.Rows.callWith_builtin1 (fW (ha pos pins s σ H _ I h) fun us s1 ⟨vs,H1,I1,r1,q1⟩=>hc pins s1 σ H1 vs us Q I1 r1 q1) he jz
theorem sM(hc:lT X (.type T) r)(hg:Gl X x)(hm:X.mg x=none)(hv:bootBuiltins x=some (.type T))(ha:PA X (e::es) t)(hn:x≠"__name__":=by decide)(lU:(x==("__debug__":Str))=false:=by decide)(he:starEach (e::es) X.env=(false,eval e X.env)::starEach es X.env:=by rfl)(jz:(backTo pos (starEach es X.env)).any (·.1)=false:=by rfl):PE X (.Call (.Name x p) (e::es) [] pos) (tCB r t):=by
  intro pins s σ H Q I h;refine wpAny_Call_Name_kw (p6 I hg hm hv ?_ hn lU);exact PyProof.Rows.callWith_type1 (fW (ha pos pins s σ H _ I h) fun us s1 ⟨vs,H1,I1,r1,q1⟩=>hc pins s1 σ H1 vs us Q I1 r1 q1) he jz
end
end L2
variable {xs:List (List L2.Key×PySem.Addr×PySem.Value)} {F F' H H':L2.Hp} {o:L2.HO} {v y:L2.V} {X:L2.Cx} {σ:L2.St} {r:L2.R2} {aW:List (List L2.Key×L2.V)}
namespace HT
open PySem PyProof.Rows
def lexLt:bD→bD→Bool
  |[],[]=>false
  |[],_::_=>true
  |_::_,[]=>false
  |x::xs,y::ys=>if x=y then lexLt xs ys else decide (x<y)
theorem kr(x y:Int)(xs ys:bD):lexLt (x::xs) (y::ys)=if x=y then lexLt xs ys else decide (x<y):=rfl
theorem pO:lexLt [] []=false:=rfl
theorem nL(y:Int)(ys:bD):lexLt [] (y::ys)=true:=rfl
theorem iR(x:Int)(xs:bD):lexLt (x::xs) []=false:=rfl
theorem Ic(A:Around)(s:Shared)(a:Int)(t:Tok)(c:Int)(u:Tok):∃e,SeqAt.EqAt A s (.int a t) (.int c u) e∧(e=true↔a=c) :=
  ⟨(a==c),SeqAt.EqAt.int_int a t c u,by simp⟩
theorem Ie(A:Around)(s:Shared)(a:Int)(t:Tok)(c:Int)(u:Tok)(prog:Program)(w:World)(E:kX)(Q:kX)(h:Q (.bool (decide (a<c))) s):wpAny (model prog w) A (richCompare .Lt (.int a t) (.int c u)) Q E s :=
  (PyProof.Rows.lt_int h:wpAny (model prog w) A (compareOp .Lt (.int a t) (.int c u)) Q E s)
section
open PySem.SeqAt
open PySem.AutoSeq1 (wpAny_loadPart')
open PySem.MeetsSeq PySem.MeetsSeq2 PySem.MeetsSeq3
theorem xx(l b:Addr)(items ly:Array Value)(n n2:Nat)(dd Sf:Option Addr)(sl Hx:Array fV)(ns ms:bD)(hi:IntsAre items.toList ns)(hj:IntsAre ly.toList ms):Meets (Builtin.«tuple.__lt__» ⟨[.ref l,.ref b],[]⟩) (fun _ R s=>s.heap.get? l=some { cls:=.type "tuple",dict:=dd,data:=.seq items n,slots:=sl }∧s.heap.get? b=some { cls:=.type "tuple",dict:=Sf,data:=.seq ly n2,slots:=Hx }∧R (.ok (.ret (.bool (lexLt ns ms)))) s) :=
  .of_wp fun prog w A R s h=>by
    obtain⟨hp,g,d,tk,os⟩:=s;obtain⟨hl,hb,h⟩:=h;have f2:=AutoSeq1.sub_tuple_tuple;have z1:items.size=ns.length:=by rw[←hi.length];simp
    have z2:ly.size=ms.length:=by rw[←hj.length];simp
    wp_walk using wpAny_loadPart' hl,wpAny_loadPart' hb,wpAny_forIn_list _ (fun rest b s'=>b.1=none∧s'=⟨hp,g,d,tk,os⟩∧∃(vs ws:dW) (Pq Rm:bD),rest=vs.zip ws ∧
      IntsAre vs Pq∧IntsAre ws Rm∧Pq.length+ly.size=Rm.length+items.size∧R (.ok (.ret (.bool (lexLt Pq Rm)))) ⟨hp,g,d,tk,os⟩) _
    case turn =>
      rintro⟨y,x⟩ rest b s' ⟨LK,rfl,vs,ws,Pq,Rm,hz,WB,Vb,hlen,hR⟩;cases WB with
      |nil=>rw[List.zip_nil_left] at hz;cases hz
      |cons a t WC =>
       cases Vb with
       |nil=>rw[List.zip_nil_right] at hz;cases hz
       |cons c u WD =>
        rw[List.zip_cons_cons] at hz;injection hz with hyx Sg;injection hyx with hy hx;subst hy hx;rw[kr] at hR;simp only[xr] at hlen;obtain⟨e,he,Sh⟩:=Ic A.in1 ⟨hp,g,d,tk,os⟩ a t c u;refine de (he prog w _ _ ?_);cases e with
        |true =>
         rw[bR (Sh.mp rfl)] at hR
         wp_walk
         exact⟨rfl,rfl,_,_,_,_,Sg,WC,WD,by omega,hR⟩
        |false =>
         rw[bS (fun q=>absurd (Sh.mpr q) jZ)] at hR;have hri:=Ie A.in1 ⟨hp,g,d,tk,os⟩ a t c u prog w
         wp_walk using hri
         exact⟨_,rfl,by simpa using hR⟩
    case fin =>
      rintro⟨b1,b2⟩ s' ⟨LK,rfl,vs,ws,Pq,Rm,hz,WB,Vb,hlen,hR⟩;simp only at LK;subst LK;have hv:lexLt Pq Rm=decide (items.size<ly.size):=by
        cases WB with
        |nil =>
         cases Vb with
         |nil=>simp only[List.length_nil] at hlen;rw[pO];exact(mB (by omega)).symm
         |cons c u hw=>simp only[List.length_nil,xr] at hlen;rw[nL];exact(km (by omega)).symm
        |cons a t hv =>
         cases Vb with
         |nil=>simp only[List.length_nil,xr] at hlen;rw[iR];exact(mB (by omega)).symm
         |cons c u hw=>rw[List.zip_cons_cons] at hz;cases hz
      rw[hv] at hR
      wp_walk
      exact⟨_,rfl,by simpa[Builtin.Tuple.tupleCompareSizes] using hR⟩
    case h =>
      exact⟨rfl,rfl,items.toList,ly.toList,ns,ms,rfl,hi,hj,by omega,h⟩
end
section
variable {prog:Program} {w:World} {A:Around} {E:kX} {s:Shared}
theorem Cw{l:Addr}{items ly:Array Value}{ms:bD}(hl:IsTup s.heap l items)(hb:IsTup s.heap b ly)(hi:IntsAre items.toList ns)(hj:IntsAre ly.toList ms)(hu:A.units<cLine)(h:Q (.bool (lexLt ns ms)) s):wpAny (model prog w) A (compareOp .Lt (.ref l) (.ref b)) Q E s:=by
  obtain⟨⟨cls,dd,data,sl⟩,ho,hc,n,hd⟩:=id hl;obtain⟨⟨WG,Sf,data2,Hx⟩,Pr,Lf,n2,hd2⟩:=id hb;simp only at hc hd Lf hd2;subst hc hd Lf hd2;exact richCompare_meets_room (op:=.Lt) ⟨_,ho,rfl⟩ ⟨_,Pr,rfl⟩ PySem.F.slot_tuple_lt PySem.F.entry_tuple_lt (PySem.F.args_tuple_lt_2 _ _) (xx l b items ly n n2 dd Sf sl Hx ns ms hi hj)
    ⟨ho,Pr,show Value.bool (lexLt ns ms)≠Value.notImplemented∧Q (.bool (lexLt ns ms)) s from⟨(fun x=>nomatch x),h⟩⟩ hu
def qK(n d:Nat):Option Int→Nat
  |none=>d
  |some v=>if v<0 then(v+(n:Int)).toNat else min v.toNat n
theorem Ig(n d:Nat):qK n d none=d:=rfl
theorem uM(n d k:Nat):qK n d (some (k:Int))=min k n:=by show(if (k:Int)<0 then((k:Int)+(n:Int)).toNat else min (k:Int).toNat n)=min k n;rw[bS (by omega),Int.toNat_natCast]
end
end HT
namespace L2
open PySem PySem.Spec PyProof.Rows
abbrev TO:=St→Hp→(Option Int→Hp→Prop)→Prop
def PO(X:Cx)(e:Option Expr)(t:TO):Prop :=
  ∀(pins:jc) (s:Shared) (σ:St) (H:Hp) (Q:Option Int→Hp→Prop),Inv X pins σ H s→t σ H Q →
   wpAny (model X.prog X.w) X.A (evalPart e X.env) (fun u s'=>∃o H',Inv X pins σ H' s'∧IsPart u o∧Q o H') X.xe s
def LM:TO:=fun _ H Q=>Q none H
def Si(t:TE):TO:=fun σ H Q=>t σ H fun x H1=>∃i,x=.int i∧Q (some i) H1
theorem intsAre_of:∀{us:dW},Vals (ns.map V.int) us→IntsAre us ns:=by
  induction ns with
  |nil=>intro us r;rw[mC] at r;cases r;exact .nil
  |cons n ns ih =>
   intro us r;rw[gy] at r;cases r with
   |cons r1 r2=>obtain⟨t,e⟩:=r1;subst e;exact .cons n t (ih r2)
section
variable {X:Cx} {e:Expr} {te:TE} {lo hi:Option Expr} {tl th:TO} {pos p2:Pos}
theorem LN:PO X none LM:=by intro pins s σ H Q I h;rw[evalPart_none];exact cU ⟨none,H,I,.none,h⟩
theorem LP(h:PE X e te):PO X (some e) (Si te):=by intro pins s σ H Q I hw;rw[evalPart_some];refine fW (h pins s σ H _ I hw) fun u s1 ⟨x,H1,I1,r1,q1⟩=>?_;obtain⟨i,rfl,q⟩:=q1;obtain⟨t,rfl⟩:=r1;exact⟨some i,H1,I1,.int i t,q⟩
def SlR(X:Cx)(r:V→Option Int→Option Int→Hp→VK→Prop):Prop :=
  ∀(pins:jc) (s:Shared) (σ:St) (H:Hp) (x:V) (v vl vu:Value) (lo hi:Option Int) (sl:Addr) (Q:VK),Inv X pins σ H s→RelV x v→s.heap.IsSliceOf sl vl vu .none→IsPart vl lo→IsPart vu hi→r x lo hi H Q →
   ∃T id,typeLookup (.type T) "__getitem__"=pure (some (.builtin id))∧s.TypeIs v T∧wpAny (model X.prog X.w) X.A (getItem v (.ref sl)) (EP X pins σ Q) X.xe s
def tSl(r:V→Option Int→Option Int→Hp→VK→Prop)(te:TE)(tl th:TO):TE:=fun σ H Q=>te σ H fun x H1=>tl σ H1 fun l H2=>th σ H2 fun u H3=>r x l u H3 Q
theorem Ih{r:V→Option Int→Option Int→Hp→VK→Prop}(hr:SlR X r)(he:PE X e te)(hl:PO X lo tl)(hu:PO X hi th):PE X (.Subscript e (.Slice lo hi none p2) pos) (tSl r te tl th):=by intro pins s σ H Q I h;refine Subscript_ (fW (he pins s σ H _ I h) fun v s1 ⟨x,H1,I1,r1,q1⟩=>?_);refine wpAny_Slice (fW (hl pins s1 σ H1 _ I1 q1) fun vl s2 ⟨l,H2,I2,pl,q2⟩=>fW (hu pins s2 σ H2 _ I2 q2) fun vu s3 ⟨u,H3,I3,pu,q3⟩=>?_);rw[evalPart_none];refine cU ?_;have I4:Inv X pins σ H3 { s3 with heap:=s3.heap.push { cls:=.type "slice",data:=.fields #[vl,vu,.none] } }:=I3.kept (t':=s3.toks) fun b ob q=>nE _ q;obtain⟨T,id,hT,ht,hg⟩:=hr pins { s3 with heap:=s3.heap.push { cls:=.type "slice",data:=.fields #[vl,vu,.none] } } σ H3 x v vl vu l u s3.heap.objs.size Q I4 r1 (Heap.IsSliceOf.new ..) pl pu q3;show wpAny (model X.prog X.w) X.A (subscriptTail e (.Slice lo hi none p2) v (.ref s3.heap.objs.size)) (EP X pins σ Q) X.xe { s3 with heap:=s3.heap.push { cls:=.type "slice",data:=.fields #[vl,vu,.none] } };exact tail_any (ops:=[.ref s3.heap.objs.size,v]) ht hT hg (by with_unfolding_all rfl)
def Cy(xs:List V)(lo hi:Option Int):List V:=(xs.drop (HT.qK xs.length 0 lo)).take (HT.qK xs.length xs.length hi-HT.qK xs.length 0 lo)
theorem t8(xs:List V)(lo hi:Option Int):(Cy xs lo hi).length≤xs.length:=by unfold Cy;rw[List.length_take,List.length_drop];omega
end
def Lg(n:Nat)(i:Int):Option Nat:=if 0≤i then(if i<n then some i.toNat else none) else if -(n:Int)≤i then some (i+n).toNat else none
def pE{α:Type}(xs:List α)(i:Int):Option α:=(Lg xs.length i).bind fun j=>xs[j]?
theorem Ef{i:Int}{j:Nat}(h:Lg n i=some j):seqIndex? i n=some j∧j<n∧-(n:Int)≤i∧i<n:=by
  unfold Lg at h;by_cases h0:0≤i
  · rw[bR h0] at h;by_cases h1:i<n
    ·rw[bR h1] at h;have e:i.toNat=j:=kj h;exact⟨by rw[seqIndex_of h0 h1,e],by omega,by omega,h1⟩
    ·rw[bS h1] at h;cases h
  · rw[bS h0] at h;by_cases h1:-(n:Int)≤i
    ·rw[bR h1] at h;have e:(i+n).toNat=j:=kj h;exact⟨by rw[seqIndex_neg (by omega) h1,e],by omega,h1,by omega⟩
    ·rw[bS h1] at h;cases h
theorem Eg{α:Type}{xs:List α}{i:Int}{v:α}(h:pE xs i=some v):∃j,seqIndex? i xs.length=some j∧xs[j]?=some v∧j<xs.length∧-(xs.length:Int)≤i∧i<xs.length:=by
  unfold pE at h;cases e:Lg xs.length i with
  |none=>rw[e] at h;cases h
  |some j=>rw[e] at h;obtain⟨h1,h2,h3,h4⟩:=Ef e;exact⟨j,h1,h,h2,h3,h4⟩
theorem uN{α:Type}{xs:List α}{j:Nat}{v:α}(h:xs[j]?=some v):pE xs (j:Int)=some v:=by
  have hj:j<xs.length:=(u0.mp h).1;have e:Lg xs.length (j:Int)=some j:=by unfold Lg;rw[bR (by omega),bR (by omega)];simp
  unfold pE;rw[e];exact h
def uO(b:Expr):Prop:=∀o i,subscripted b false o i=operate [o,i] (getItem o i)
def Pt(X:Cx)(r:R2):Prop :=
  ∀(value slice:Expr) (pins:jc) (s:Shared) (σ:St) (H:Hp) (x y:V) (v u:Value) (Q:VK),Inv X pins σ H s→RelV x v→RelV y u→r x y H Q →
   subscripted slice false v u=operate [v,u] (getItem v u)→wpAny (model X.prog X.w) X.A (subscriptTail value slice v u) (EP X pins σ Q) X.xe s
def MtR(X:Cx)(id:String)(r:V→List V→Hp→VK→Prop):Prop :=
  ∀(pins:jc) (s:Shared) (σ:St) (H:Hp) (x:V) (xs:List V) (v:Value) (us:dW) (Q:VK),Inv X pins σ H s→RelV x v→Vals xs us→r x xs H Q →
   wpAny (model X.prog X.w) X.A (call (.builtin id) (v::us)) (EP X pins σ Q) X.xe s
section
variable {X:Cx} {a b:Expr} {ta tb:TE} {pos:Pos}
theorem Pt.or{r':R2}(h:Pt X r)(h':Pt X r'):Pt X (fun x y H Q=>r x y H Q∨r' x y H Q):=by
  intro value slice pins s σ H x y v u Q I rx ry q hs;rcases q with q|q
  ·exact h value slice pins s σ H x y v u Q I rx ry q hs
  ·exact h' value slice pins s σ H x y v u Q I rx ry q hs
theorem Ii(hr:Pt X r)(ha:PE X a ta)(hb:PE X b tb)(hs:uO b):PE X (.Subscript a b pos) (R4 r ta tb):=by intro pins s σ H Q I h;exact Subscript_ (O5 ha hb I h fun v u s2 x y H2 I2 rx ry q=>hr a b pins s2 σ H2 x y v u Q I2 rx ry q (hs _ _))
def WH(K:PySem.W.Frag):R2:=fun x y H Q=>∃p xs i v,x=.ref p∧y=.int i∧jE K H p xs∧pE xs i=some v∧Q v H
def WK(K:PySem.W.Frag):R2:=fun x y H Q=>∃p xs i v,x=.ref p∧y=.int i∧j9 K H p xs∧pE xs i=some v∧Q v H
theorem Eh:Pt X (WH X.K):=by
  intro value slice pins s σ H x y v u Q I rx ry h hs;obtain⟨p,xs,i,z,rfl,rfl,hq,he,q⟩:=h;cases rx;obtain⟨t,rfl⟩:=ry;obtain⟨its,r,pl,hz⟩:=I.list hq;obtain⟨j,h1,h2,h3,h4,h5⟩:=Eg he;obtain⟨w,ew,Ij⟩:=r.get h2;have hl:=r.length;have hn:=vf;have fin:EP X pins σ Q w s:=⟨z,H,I,Ij,q⟩
  by_cases h0:0≤i
  · have hj:i.toNat=j:=by
      rw[seqIndex_of h0 h5] at h1;exact kj h1
    exact item_listR pl.isList h0 (by omega) (by rw[hj];simpa using ew) fin hs
  · have hj:(i+(its.toArray.size:Int)).toNat=j:=by
      rw[seqIndex_neg (by omega) h4] at h1;rw[iO,←hl];exact kj h1
    exact subscriptTail_builtinR (x:=w) pl.isList.typeIs slot_list_getitem.lookup
      (wpAny_getItem_list_neg (Q:=fun r s'=>r=w∧EP X pins σ Q r s') pl.isList (by omega) (by rw[iO]<;>omega) (by omega) (by rw[hj];simpa using ew) ⟨rfl,fin⟩) hs
theorem Cz:Pt X (WK X.K):=by
  intro value slice pins s σ H x y v u Q I rx ry h hs;obtain⟨p,xs,i,z,rfl,rfl,hq,he,q⟩:=h;cases rx;obtain⟨t,rfl⟩:=ry;obtain⟨its,r,pl,hz⟩:=I.tuple hq;obtain⟨j,h1,h2,h3,h4,h5⟩:=Eg he;obtain⟨w,ew,Ij⟩:=r.get h2;have hl:=r.length;have hn:=vf;have fin:EP X pins σ Q w s:=⟨z,H,I,Ij,q⟩
  exact subscriptTail_builtinR (x:=w) pl.typeIs slot_tuple_getitem.lookup
    (getItem_tuple (j:=j) (Q:=fun r s'=>r=w∧EP X pins σ Q r s') pl (by omega) (by omega) (by rw[iO,←hl];exact h1) (by simpa using ew) ⟨rfl,fin⟩) hs
theorem CB(its:dW)(n j:Nat)(u:Value):Obj.mapSeq (·.setIfInBounds j u) { cls:=.type "list",data:=.seq its.toArray n }={ cls:=.type "list",data:=.seq (its.set j u).toArray n }:=by simp[Obj.mapSeq]
theorem Inv.lst{pins:jc}{σ:St}{H:Hp}{s:Shared}{p:Addr}{xs:List V}(I:Inv X pins σ H s)(h:H p=some (.lst xs)):∃(its:dW) (n:Nat),Vals xs its∧s.heap.get? p=some { cls:=.type "list",data:=.seq its.toArray n }∧xs.length≤sizeLine:=by
  obtain⟨z,its,n,r,e⟩:=I.cf p _ h;exact⟨its,n,r,e,z⟩
theorem Inv.Pu{p:Addr}{xs ys:List V}{its its':dW}{n':Nat}{f:Obj→Obj}(I:Inv X pins σ H s)(h:H p=some (.lst xs))(ho:s.heap.get? p=some { cls:=.type "list",data:=.seq its.toArray n })(hf:f { cls:=.type "list",data:=.seq its.toArray n }={ cls:=.type "list",data:=.seq its'.toArray n' })(r:Vals ys its')(hz:ys.length≤sizeLine)(t:Nat):Inv X pins σ (upd H p (.lst ys)) { s with heap:=s.heap.update p f,toks:=t }:=by
  have e:(s.heap.update p f).get? p=some { cls:=.type "list",data:=.seq its'.toArray n' }:=by rw[Heap.get?_update_self f ho (by rw[hf]<;>rfl),hf]
  refine I.write (x:=p) (e:=p) (by rw[h];trivial) (.inl rfl) (fun b u hb q=>(Heap.get?_update_other _ _ (Ne.symm hb)).trans q) ⟨_,e⟩ ?_;exact⟨hz,its',n',r,e⟩
def Sj:V→V→V→Hp→(Hp→Prop)→Prop:=fun o i v H Q=>∃p xs k j,o=.ref p∧i=.int k∧H p=some (.lst xs)∧Lg xs.length k=some j∧Q (upd H p (.lst (xs.set j v)))
theorem set_list:RV X Sj:=by
  intro pins s σ H o i v ov iv u Q I ro ri rv h;obtain⟨p,xs,k,j,rfl,rfl,hp,hj,q⟩:=h;cases ro;obtain⟨t,rfl⟩:=ri;obtain⟨its,n,r,ho,hz⟩:=I.lst hp;obtain⟨h1,h2,h3,h4⟩:=Ef hj;have hl:=r.length;have hn:=vf;have I':Inv X pins σ (upd H p (.lst (xs.set j v))) { s with heap:=s.heap.update p (Obj.mapSeq (·.setIfInBounds j u)) } :=
    I.Pu hp ho (CB its n j u) (r.set rv j) (by rw[List.length_set];exact hz) s.toks
  by_cases h0:0≤k
  · have hk:k.toNat=j:=by
      rw[seqIndex_of h0 h4] at h1;exact kj h1
    exact PySem.W.ki_setAt ho h0 (by omega) (by rw[iO,←hl];exact h4) (by rw[hk];exact⟨_,I',q⟩)
  · have hk:(k+(its.toArray.size:Int)).toNat=j:=by
      rw[seqIndex_neg (by omega) h3] at h1;rw[iO,←hl];exact kj h1
    exact PySem.W.ki_setBack ho (by omega) (by rw[iO,←hl];exact h3) (by omega) (by rw[hk];exact⟨_,I',q⟩)
theorem y3(lo hi:Option Int)(n:Nat):(sliceBounds lo hi none n).1=((HT.qK n 0 lo:Nat):Int)∧(sliceBounds lo hi none n).2.1=((HT.qK n n hi:Nat):Int)∧(sliceBounds lo hi none n).2.2=1:=by
  refine⟨?_,?_,rfl⟩
  · cases lo with
    |none=>simp[sliceBounds,HT.qK]
    |some i =>
     simp only[sliceBounds,HT.qK,Option.getD_none,show(1:Int)>0 by decide,iq];by_cases h:i<0
     ·simp only[h,iq]<;>omega
     ·simp only[h,mE]<;>omega
  · cases hi with
    |none=>simp[sliceBounds,HT.qK]
    |some i =>
     simp only[sliceBounds,HT.qK,Option.getD_none,show(1:Int)>0 by decide,iq];by_cases h:i<0
     ·simp only[h,iq]<;>omega
     ·simp only[h,mE]<;>omega
theorem xA(its:dW)(lo hi:Option Int):slicePick its.toArray lo hi none=((its.drop (HT.qK its.length 0 lo)).take (HT.qK its.length its.length hi-HT.qK its.length 0 lo)).toArray:=by obtain⟨h1,h2,h3⟩:=y3 lo hi its.toArray.size;unfold slicePick;rw[h1,h2,h3];simp only[sliceRange_one,pick_run,iO]<;>rfl
def WL(K:PySem.W.Frag):V→Option Int→Option Int→Hp→VK→Prop:=fun x lo hi H Q=>∃a xs,x=.ref a∧jE K H a xs∧∀p,H p=none→Q (.ref p) (upd H p (.lst (Cy xs lo hi)))
theorem LQ:SlR X (WL X.K):=by intro pins s σ H x v vl vu lo hi sl Q I rx hs pl pu h;obtain⟨a,xs,rfl,hx,q⟩:=h;cases rx;obtain⟨its,r,ht,hz⟩:=I.list hx;have hlen:=r.length;refine⟨"list",_,slot_list_getitem.lookup,ht.isList.typeIs,?_⟩;refine wpAny_getItem_list_slice ht.isList hs pl pu .none (by simp) ?_ (by rw[iO]<;>omega);rw[xA,←hlen];refine⟨.ref s.heap.objs.size,_,I.laid (t':=s.toks) (o:=.lst (Cy xs lo hi)) (fun b ob q=>nE _ q) (cN _) ?_,rfl,q _ (I.cf.fresh (cN _))⟩;exact⟨qG (t8 xs lo hi) hz,_,0,(r.drop (HT.qK xs.length 0 lo)).take (HT.qK xs.length xs.length hi-HT.qK xs.length 0 lo),lO _ rfl⟩
def pP:V→Bool
  |.non=>true
  |.bl _=>true
  |.int _=>true
  |.str _=>true
  |_=>false
def LR:V→V→Bool
  |.non,.non=>true
  |.bl a,.bl b=>a==b
  |.bl a,.int b=>(if a then 1 else 0)==b
  |.int a,.bl b=>a==(if b then 1 else 0)
  |.int a,.int b=>a==b
  |.str a,.str b=>a==b
  |_,_=>false
theorem Pw{x:V}{v:Value}(ry:RelV y u)(rx:RelV x v)(fy:pP y=true)(fx:pP x=true):SeqAt.EqAt A s u v (LR y x):=by
  cases y with
  |non =>
   cases ry;cases x with
   |non=>cases rx;exact SeqAt.EqAt.same _
   |bl b=>cases rx;exact SeqAt.EqAt.none_bool b
   |int b=>obtain⟨t,rfl⟩:=rx;exact SeqAt.EqAt.none_int b t
   |str b=>obtain⟨t,rfl⟩:=rx;exact SeqAt.EqAt.none_str b t
   |_=>exact absurd (show false=true from fx) jZ
  |bl a =>
   cases ry;cases x with
   |non=>cases rx;exact SeqAt.EqAt.bool_none a
   |bl b=>cases rx;exact SeqAt.EqAt.bool_bool a b
   |int b=>obtain⟨t,rfl⟩:=rx;exact SeqAt.EqAt.bool_int a b t
   |str b=>obtain⟨t,rfl⟩:=rx;exact SeqAt.EqAt.bool_str a b t
   |_=>exact absurd (show false=true from fx) jZ
  |int a =>
   obtain⟨t',rfl⟩:=ry;cases x with
   |non=>cases rx;exact SeqAt.EqAt.int_none a t'
   |bl b=>cases rx;exact SeqAt.EqAt.int_bool a t' b
   |int b=>obtain⟨t,rfl⟩:=rx;exact SeqAt.EqAt.int_int a t' b t
   |str b=>obtain⟨t,rfl⟩:=rx;exact SeqAt.EqAt.int_str a t' b t
   |_=>exact absurd (show false=true from fx) jZ
  |str a =>
   obtain⟨t',rfl⟩:=ry;cases x with
   |non=>cases rx;exact SeqAt.EqAt.str_none a t'
   |bl b=>cases rx;exact SeqAt.EqAt.str_bool a t' b
   |int b=>obtain⟨t,rfl⟩:=rx;exact SeqAt.EqAt.str_int a t' b t
   |str b=>obtain⟨t,rfl⟩:=rx;exact SeqAt.EqAt.str_str a t' b t
   |_=>exact absurd (show false=true from fx) jZ
  |_=>exact absurd (show false=true from fy) jZ
def CC(x:V)(u:Value):Bool:=match u with
  |.none=>LR .non x
  |.bool b=>LR (.bl b) x
  |.int i _=>LR (.int i) x
  |.str z _=>LR (.str z) x
  |_=>false
theorem Ik{x:V}(r:RelV y u)(f:pP y=true):CC x u=LR y x:=by
  cases y with
  |non=>cases r;rfl
  |bl b=>cases r;rfl
  |int i=>obtain⟨t,rfl⟩:=r;rfl
  |str z=>obtain⟨t,rfl⟩:=r;rfl
  |_=>exact absurd (show false=true from f) jZ
theorem qL{x:V}:∀{xs:List V} {us:dW},Vals xs us→xs.all pP=true→us.any (CC x)=xs.any fun y=>LR y x
  |_,_,.nil,_=>rfl
  |y::xs,u::us,.cons r t,f=>by rw[pX,qF] at f;rw[List.any_cons,List.any_cons,Ik r f.1,qL t f.2]
theorem nM{A:Around}{s:Shared}{x:V}{v:Value}(rx:RelV x v)(fx:pP x=true):∀{xs:List V} {us:dW},Vals xs us→xs.all pP=true→∀u∈us,SeqAt.EqAt A s u v (CC x u)
  |_,_,.nil,_=>fun u hu=>by cases hu
  |y::xs,u::us,.cons r t,f=>fun u' hu=>by
   rw[pX,qF] at f;rcases gB.mp hu with rfl|hu
   ·rw[Ik r f.1];exact Pw r rx f.1 fx
   ·exact nM rx fx t f.2 u' hu
def Rn(x:V)(xs:List V):Bool:=xs.any fun y=>LR y x
def WM(K:PySem.W.Frag)(neg:Bool):R2:=fun x y H Q=>∃p xs,y=.ref p∧(jE K H p xs∨j9 K H p xs)∧pP x=true∧xs.all pP=true∧Q (.bl (if neg then !Rn x xs else Rn x xs)) H
theorem F5:nK X (compareOp .In) (WM X.K false):=by
  intro pins s σ H x y v u Q I rx ry h;obtain⟨p,xs,rfl,hq,fx,fs,q⟩:=h;cases ry;rcases hq with hq|hq
  ·obtain⟨its,r,pl,hz⟩:=I.list hq;refine SeqAt.in_listAt (CC x) pl.isList (fun w hw=>nM rx fx r fs w (by simpa using hw)) ⟨.bl _,H,I,rfl,?_⟩;rw[show its.toArray.any (CC x)=its.any (CC x) by simp,qL r fs];exact q
  ·obtain⟨its,r,pl,hz⟩:=I.tuple hq;refine SeqAt.in_tupleAt (CC x) pl (fun w hw=>nM rx fx r fs w (by simpa using hw)) ⟨.bl _,H,I,rfl,?_⟩;rw[show its.toArray.any (CC x)=its.any (CC x) by simp,qL r fs];exact q
theorem y4:nK X (compareOp .NotIn) (WM X.K true):=by
  intro pins s σ H x y v u Q I rx ry h;obtain⟨p,xs,rfl,hq,fx,fs,q⟩:=h;cases ry;rcases hq with hq|hq
  ·obtain⟨its,r,pl,hz⟩:=I.list hq;refine SeqAt.notIn_listAt (CC x) pl.isList (fun w hw=>nM rx fx r fs w (by simpa using hw)) ⟨.bl _,H,I,rfl,?_⟩;rw[show its.toArray.any (CC x)=its.any (CC x) by simp,qL r fs];exact q
  ·obtain⟨its,r,pl,hz⟩:=I.tuple hq;refine SeqAt.notIn_tupleAt (CC x) pl (fun w hw=>nM rx fx r fs w (by simpa using hw)) ⟨.bl _,H,I,rfl,?_⟩;rw[show its.toArray.any (CC x)=its.any (CC x) by simp,qL r fs];exact q
theorem dz:lT X (.builtin "len") (fun xs H Q=>∃p ys,xs=[.ref p]∧(jE X.K H p ys∨j9 X.K H p ys)∧Q (.int ys.length) H):=by
  intro pins s σ H xs us Q I r h;obtain⟨p,ys,rfl,hq,q⟩:=h;obtain⟨u,rfl,rx⟩:=vals1 r;cases rx;have hn:=vf;rcases hq with hq|hq
  ·obtain⟨its,r',pl,hz⟩:=I.list hq;have hlen:=r'.length;exact Calls.call_len_list pl.isList (by simp only[iO]<;>omega) ⟨.int ys.length,H,I.tok _,⟨s.toks+1,by rw[iO,hlen]⟩,q⟩
  ·obtain⟨its,r',pl,hz⟩:=I.tuple hq;have hlen:=r'.length;exact len_tuple pl (by simp only[iO]<;>omega) ⟨.int ys.length,H,I.tok _,⟨s.toks+1,by rw[iO,hlen]⟩,q⟩
theorem y7:lT X (.type "list") (fun xs H Q=>∃p ys,xs=[.ref p]∧(jE X.K H p ys∨j9 X.K H p ys)∧∀l,H l=none→Q (.ref l) (upd H l (.lst ys))):=by
  intro pins s σ H xs us Q I r h;obtain⟨p,ys,rfl,hq,q⟩:=h;obtain⟨u,rfl,rx⟩:=vals1 r;cases rx;have fin:∀(its:dW),Vals ys its→ys.length≤sizeLine→∀(h':Heap) (c':Nat),(∀b o',s.heap.get? b=some o'→h'.get? b=some o') →
      h'.get? s.heap.objs.size=some { cls:=.type "list",dict:=none,data:=.seq its.toArray c',slots:=#[] }→EP X pins σ Q (.ref s.heap.objs.size) { s with heap:=h' }:=fun its r' hz h' c' kp e =>
    ⟨.ref s.heap.objs.size,_,I.laid (t':=s.toks) kp (cN _) (show bU X.prog X.w _ h' _ (.lst ys) from⟨hz,its,c',r',e⟩),rfl,q _ (I.cf.fresh (cN _))⟩
  rcases hq with hq|hq
  ·obtain⟨its,r',pl,hz⟩:=I.list hq;have hlen:=r'.length;obtain⟨o,ho,hc,n,hd⟩:=pl.isList;exact call_list_seq p (.inl rfl) ho hc hd (fun h' c' kp e=>fin its r' hz h' c' kp e) (by simp only[iO]<;>omega)
  ·obtain⟨its,r',pl,hz⟩:=I.tuple hq;have hlen:=r'.length;obtain⟨o,ho,hc,n,hd⟩:=pl;exact call_list_seq p (.inr rfl) ho hc hd (fun h' c' kp e=>fin its r' hz h' c' kp e) (by simp only[iO]<;>omega)
theorem pQ:lT X (.type "tuple") (fun xs H Q=>∃p ys,xs=[.ref p]∧((jE X.K H p ys∧∀l,H l=none→Q (.ref l) (upd H l (.tup ys)))∨(j9 X.K H p ys∧Q (.ref p) H))):=by
  intro pins s σ H xs us Q I r h;obtain⟨p,ys,rfl,h⟩:=h;obtain⟨u,rfl,rx⟩:=vals1 r;cases rx;rcases h with⟨hq,q⟩|⟨hq,q⟩
  · obtain⟨its,r',pl,hz⟩:=I.list hq;have hlen:=r'.length;refine call_tuple_list pl.isList (fun h' kp=>?_) (by simp only[iO]<;>omega);have I1:Inv X pins σ H { s with heap:=h' }:=I.kept (t':=s.toks) kp;have I2:Inv X pins σ (upd H h'.objs.size (.tup ys)) { s with heap:=h'.push { cls:=.type "tuple",data:=.seq its.toArray } } :=
      I1.laid (t':=s.toks) (fun b o e=>nE _ e) (cN _) (show bU X.prog X.w _ _ _ (.tup ys) from⟨hz,its,r',IsTup.new _ _⟩)
    exact⟨.ref h'.objs.size,_,I2,rfl,q _ (I1.cf.fresh (cN _))⟩
  ·obtain⟨its,r',pl,hz⟩:=I.tuple hq;exact call_tuple_same pl ⟨.ref p,H,I,rfl,q⟩
def WN(K:PySem.W.Frag)(T:String)(x:V)(H:Hp):Prop:=match x with
  |.str _=>T="str"
  |.int _=>T="int"
  |.ref p=>(T="list"∧∃xs,jE K H p xs)∨(T="tuple"∧∃o,K.lookup p=some o∧o.cls=.type "tuple"∧o.dict=none) ∨
      (T="dict"∧((∃aW,H p=some (.dK aW))∨∃aW,H p=some (.dT aW)))∨(T="set"∧∃S n,H p=some (.set S n))
  |_=>False
theorem Il{T:String}{x:V}{v:Value}(I:Inv X pins σ H s)(r:RelV x v)(ty:WN X.K T x H):s.TypeIs v T∧∀a,v=.ref a→∃ob,s.heap.get? a=some ob∧ob.dict=none:=by
  cases x with
  |str z=>obtain⟨t,rfl⟩:=r;cases(show T="str" from ty);exact⟨typeIs_str s z t,fun _ e=>nomatch e⟩
  |int i=>obtain⟨t,rfl⟩:=r;cases(show T="int" from ty);exact⟨typeIs_int s i t,fun _ e=>nomatch e⟩
  |ref p =>
   cases r;rcases ty with⟨rfl,xs,hq⟩|⟨rfl,o,hk,hc,hd⟩|⟨rfl,hk⟩|⟨rfl,S,n,hk⟩
   ·obtain⟨its,_,pl,_⟩:=I.list hq;refine⟨pl.isList.typeIs,fun a e=>?_⟩;cases e;obtain⟨o,n,e,c,hd,_⟩:=pl;exact⟨o,e,hd⟩
   ·refine⟨⟨o,I.qI p o hk,hc⟩,fun a e=>?_⟩;cases e;exact⟨o,I.qI _ o hk,hd⟩
   · have z:∃o,s.heap.get? p=some o∧o.ExactDict:=by
       rcases hk with⟨aW,hk⟩|⟨aW,hk⟩
       ·obtain⟨_,_,_,_,o,_,_,e,ex,_⟩:=I.cf p _ hk;exact⟨o,e,ex⟩
       ·obtain⟨_,_,_,_,o,_,_,e,ex,_⟩:=I.cf p _ hk;exact⟨o,e,ex⟩
     obtain⟨o,e,ex⟩:=z;refine⟨⟨o,e,ex.1⟩,fun a e2=>?_⟩;cases e2;exact⟨o,e,ex.2.1⟩
   ·obtain⟨o,_,_,_,e,ex,_⟩:=I.cf p _ hk;refine⟨⟨o,e,ex.1⟩,fun a e2=>?_⟩;cases e2;exact⟨o,e,ex.2.1⟩
  |_=>exact False.elim ty
def WO(K:PySem.W.Frag)(T:String)(r:V→List V→Hp→VK→Prop)(to:TE):TE:=fun σ H Q=>to σ H fun x H1=>WN K T x H1∧r x [] H1 Q
def tBM(K:PySem.W.Frag)(T:String)(r:V→List V→Hp→VK→Prop)(to:TE)(t:TA):TE:=fun σ H Q=>to σ H fun x H1=>WN K T x H1∧t σ H1 fun xs H2=>r x xs H2 Q
variable {o e:Expr} {es:List Expr} {to:TE} {t:TA} {name:Str} {apos eU:Pos} {T id:String} {r:V→List V→Hp→VK→Prop}
theorem Px(pa:PlainAttrs T)(slot:Slot T name id)(Ro:typeOf (.builtin id)=pure (.type "method_descriptor"))(hm:MtR X id r)(ho:PE X o to)(qM:attributeBase o name X.env (eval o X.env)=eval o X.env:=by rfl)(hline:(apos.endLine==eU.line)=true:=by rfl):PE X (.Call (.Attribute o name apos) [] [] eU) (WO X.K T r to):=by
  intro pins s σ H Q I h;refine wpAny_Call_method0_late qM hline (fW (ho pins s σ H _ I h) fun v s1 ⟨x,H1,I1,r1,ty,q1⟩=>?_);obtain⟨h1,h2⟩:=Il I1 r1 ty;exact⟨T,id,pa,slot,Ro,h1,h2,Calls.callWith_builtin rfl (PySem.evalArgs_none (hm pins s1 σ H1 x [] v [] Q I1 r1 .nil q1))⟩
theorem Sl(pa:PlainAttrs T)(slot:Slot T name id)(Ro:typeOf (.builtin id)=pure (.type "method_descriptor"))(hm:MtR X id r)(ho:PE X o to)(ha:PA X (e::es) t)(qM:attributeBase o name X.env (eval o X.env)=eval o X.env:=by rfl)(Py:((backTo eU (starEach (e::es) X.env)).all (fun x=>!x.1)&&(backToKw eU (keywordEach [] X.env)).all (fun x=>x.1.isSome)
      && decide ((e::es).length+([]:List Keyword).length+(if ([]:List Keyword).isEmpty then 0 else 1)<30))=true:=by rfl)(hline:(apos.endLine==eU.line)=true:=by rfl)(hs:starEach (e::es) X.env=(false,eval e X.env)::starEach es X.env:=by rfl)(Pz:(backTo eU (starEach es X.env)).any (·.1)=false:=by rfl):PE X (.Call (.Attribute o name apos) (e::es) [] eU) (tBM X.K T r to t):=by
  intro pins s σ H Q I h;refine wpAny_Call_method_late qM Py hline rfl (fW (ho pins s σ H _ I h) fun v s1 ⟨x,H1,I1,r1,ty,q1⟩=>?_);obtain⟨h1,h2⟩:=Il I1 r1 ty;refine⟨T,id,pa,slot,Ro,h1,h2,?_⟩;have hA:=ha eU pins s1 σ H1 _ I1 q1;rw[hs] at hA⊢;refine Calls.callWith_builtin (by show(false||(backTo eU (starEach es X.env)).any (·.1))=false;rw[Pz]<;>rfl) (Calls.evalArgs_plain ?_);exact fW hA fun us s2 ⟨vs,H2,I2,r2,q2⟩=>hm pins s2 σ H2 x vs v us Q I2 r1 r2 q2
end
def WQ(X:Cx)(id:String)(r:V→List V→Hp→VK→Prop):Prop :=
  ∀(pins:jc) (s:Shared) (σ:St) (H:Hp) (x:V) (xs:List V) (v:Value) (us:dW) (Q:VK),Inv X pins σ H s→RelV x v→Vals xs us→r x xs H Q →
   wpAny (model X.prog X.w) X.A (call (.builtin id) (v::us)) (EP X pins σ Q) X.xe s
theorem Vals.one:∀{x:V} {us:dW},Vals [x] us→∃u,us=[u]∧RelV x u
  |_,_,.cons r .nil=>⟨_,rfl,r⟩
theorem Vals.zero:∀{us:dW},Vals [] us→us=[]
  |_,.nil=>rfl
theorem Vals.dropLast{xs:List V}(h:Vals xs us):Vals xs.dropLast us.dropLast:=by
  induction h with
  |nil=>exact .nil
  |cons r t ih =>
   cases t with
   |nil=>exact .nil
   |cons q t'=>exact .cons r ih
theorem CD{α:Type}(l:List α):l.eraseIdx (l.length-1)=l.dropLast:=by
  induction l with
  |nil=>rfl
  |cons a r ih =>
   cases r with
   |nil=>rfl
   |cons b r =>
    have e:(a::b::r).length-1=((b::r).length-1)+1:=by have h1:(a::b::r).length=r.length+2:=rfl;have h2:(b::r).length=r.length+1:=rfl;omega
    rw[e,List.eraseIdx_cons_succ,ih]
    all_goals rfl
section
variable {X:Cx} {pins:jc} {σ:St} {H:Hp} {s:Shared} {l b:Addr} {xs ys zs:List V}
theorem Inv.PB{its its':dW}{f:Array Value→Array Value}(I:Inv X pins σ H s)(hH:H l=some (.lst xs))(e:s.heap.get? l=some { cls:=.type "list",data:=.seq its.toArray n })(hf:f its.toArray=its'.toArray)(hv:Vals ys its')(hz:ys.length≤sizeLine):Inv X pins σ (upd H l (.lst ys)) { s with heap:=s.heap.update l (Obj.mapSeq f),toks:=t' }:=by
  have q:=PySem.IsL.update e f;rw[hf] at q;refine I.write (x:=l) (e:=l) (by rw[hH];exact trivial) (.inl rfl) (fun b' u hb hu=>(Heap.get?_update_other s.heap (Obj.mapSeq f) (Ne.symm hb)).trans hu) ⟨_,q⟩ ?_;exact⟨hz,its',_,hv,q⟩
theorem Inv.WR{its:dW}(I:Inv X pins σ H s)(hv:Vals ys its)(hz:ys.length≤sizeLine):Inv X pins σ (upd H s.heap.objs.size (.lst ys)) { s with heap:=s.heap.push { cls:=.type "list",data:=.seq its.toArray },toks:=t' } :=
  I.laid (fun _ _ q=>nE _ q) (cN _) ⟨hz,its,0,hv,lO _ rfl⟩
theorem Inv.fresh(I:Inv X pins σ H s):H s.heap.objs.size=none:=I.cf.fresh (cN _)
theorem Inv.PD(I:Inv X pins σ H s)(hH:H l=some (.lst xs)):xs.length≤sizeLine∧∃(its:dW) (n:Nat),Vals xs its∧xs.length=its.length∧s.heap.get? l=some { cls:=.type "list",data:=.seq its.toArray n }:=by obtain⟨z,its,n,r,e⟩:=I.cf l _ hH;exact⟨z,its,n,r,r.length,e⟩
end
section
variable {X:Cx}
def LS:V→List V→Hp→VK→Prop:=fun x vs H Q=>∃l xs y,x=.ref l∧vs=[y]∧H l=some (.lst xs)∧xs.length<sizeLine∧Q .non (upd H l (.lst (xs++[y])))
theorem F6:WQ X "list.append" LS:=by intro pins s σ H x vs v us Q I rx rv h;obtain⟨l,xs,y,rfl,rfl,hH,hz,q⟩:=h;cases rx;obtain⟨u,rfl,ru⟩:=rv.one;obtain⟨z,its,n,r,hl,e⟩:=I.PD hH;refine call_meets F.slot_list_append ⟨_,e,rfl⟩ F.entry_list_append (F.args_list_append_2 _ _) (PySem.list_append l its.toArray n u (by rw[iO];omega)) ⟨e,?_⟩;refine⟨.non,_,I.PB (its':=its++[u]) hH e (by simp) (r.append (.cons ru .nil)) ?_,rfl,q⟩;rw[uq,List.length_singleton];omega
def WT:V→List V→Hp→VK→Prop:=fun x vs H Q=>∃l xs y,x=.ref l∧vs=[]∧H l=some (.lst xs)∧xs[xs.length-1]?=some y∧Q y (upd H l (.lst xs.dropLast))
theorem WU:WQ X "list.pop" WT:=by
  intro pins s σ H x vs v us Q I rx rv h;obtain⟨l,xs,y,rfl,rfl,hH,hy,q⟩:=h;cases rx;have WV:=rv.zero;subst WV;obtain⟨z,its,n,r,hl,e⟩:=I.PD hH;obtain⟨u,hu,ru⟩:=r.get hy;have hy':its.toArray[its.toArray.size-1]?=some u:=by show its.toArray[its.length-1]?=some u;rw[←Array.getElem?_toList,←hl];exact hu
  refine call_meets F.slot_list_pop ⟨_,e,rfl⟩ F.entry_list_pop (F.args_list_pop_1 _) (MeetsSeq.list_pop_last l its.toArray n u hy' (by rw[iO];omega)) ⟨e,?_⟩;refine⟨y,_,I.PB (its':=its.dropLast) hH e ?_ r.dropLast ?_,ru,q⟩
  ·show its.toArray.eraseIdxIfInBounds (its.toArray.size-1)=its.dropLast.toArray;rw[iO,List.eraseIdxIfInBounds_toArray,CD]
  ·rw[List.length_dropLast];omega
def PH:V→List V→Hp→VK→Prop:=fun x vs H Q=>∃l xs,x=.ref l∧vs=[]∧H l=some (.lst xs)∧Q .non (upd H l (.lst []))
theorem Im:WQ X "list.clear" PH:=by intro pins s σ H x vs v us Q I rx rv h;obtain⟨l,xs,rfl,rfl,hH,q⟩:=h;cases rx;have WV:=rv.zero;subst WV;obtain⟨z,its,n,r,hl,e⟩:=I.PD hH;refine call_meets F.slot_list_clear ⟨_,e,rfl⟩ F.entry_list_clear (F.args_list_clear_1 _) (AutoSeq1.list_clear_list_0 l its.toArray n (by rw[iO];omega)) ⟨e,?_⟩;exact⟨.non,_,I.PB (its':=[]) (ys:=[]) hH e rfl .nil (pY _),rfl,q⟩
end
section
variable {κ:Type} [DecidableEq κ]
def pF(aW:List (κ×V))(k:κ):Option V:=(aW.find? fun kv=>decide (kv.1=k)).map (·.2)
def putK(aW:List (κ×V))(k:κ)(v:V):List (κ×V) :=
  if (aW.any fun kv=>decide (kv.1=k))=true then aW.map (fun kv=>if kv.1=k then(kv.1,v) else kv) else aW++[(k,v)]
theorem qN{p:κ×V}{r:List (κ×V)}{k:κ}(e:p.1=k):pF (p::r) k=some p.2:=by simp[pF,sJ,e]
theorem qO{p:κ×V}{r:List (κ×V)}{k:κ}(e:¬ p.1=k):pF (p::r) k=pF r k:=by simp[pF,sJ,e]
theorem Az(k:κ):∀aW:List (κ×V),(aW.any fun kv=>decide (kv.1=k))=(pF aW k).isSome
  |[]=>rfl
  |p::r=>by
   rw[List.any_cons];by_cases e:p.1=k
   ·simp only[qN e,km e,Bool.true_or,Option.isSome_some]
   ·rw[qO e,mB e,Bool.false_or];exact Az k r
theorem nO(aW:List (κ×V))(k:κ)(v:V):(putK aW k v).length≤aW.length+1:=by
  unfold putK;split
  ·rw[dX];omega
  ·rw[uq,xr,List.length_nil];omega
theorem pA.F7{o:Option V}{u:fV}(r:pA o u):o.isSome=u.isSome:=by
  cases o with
  |none=>cases u with
   |none=>rfl
   |some _=>exact(show False from r).elim
  |some _=>cases u with
   |none=>exact(show False from r).elim
   |some _=>rfl
theorem pA.getD{o:Option V}{u:fV}{d:V}{d':Value}(r:pA o u)(rd:RelV d d'):RelV (o.getD d) (u.getD d'):=by
  cases o with
  |none=>cases u with
   |none=>exact rd
   |some _=>exact(show False from r).elim
  |some _=>cases u with
   |none=>exact(show False from r).elim
   |some _=>exact r
theorem KV.val{aW:List (κ×V)}{vs:List (κ×Value)}(r:KV aW vs)(k:κ):pA (pF aW k) (valueAt vs k):=by
  unfold KV at r;induction r with
  |nil=>exact True.intro
  |@cons p q ps qs h t ih =>
   obtain⟨h1,h2⟩:=h;by_cases e:p.1=k
   · have e':q.1=k:=h1.symm.trans e;have b:valueAt (q::qs) k=some q.2:=by simp[valueAt,sJ,e']
     rw[qN e,b];exact h2
   · have e':¬ q.1=k:=fun z=>e (h1.trans z);have b:valueAt (q::qs) k=valueAt qs k:=by simp[valueAt,sJ,e']
     rw[qO e,b];exact ih
theorem KV.any{aW:List (κ×V)}{vs:List (κ×Value)}(r:KV aW vs)(k:κ):(aW.any fun kv=>decide (kv.1=k))=vs.any fun kv=>decide (kv.1=k):=by
  unfold KV at r;induction r with
  |nil=>rfl
  |cons h t ih=>rw[List.any_cons,List.any_cons,ih,h.1]
theorem KV.PJ{aW:List (κ×V)}{vs:List (κ×Value)}(r:KV aW vs)(k:κ)(ry:RelV y u):KV (aW.map fun kv=>if kv.1=k then(kv.1,y) else kv) (vs.map fun kv=>if kv.1=k then(kv.1,u) else kv):=by
  unfold KV at r⊢;induction r with
  |nil=>exact .nil
  |@cons p q ps qs h t ih =>
   rw[gy,gy];refine .cons ?_ ih;obtain⟨h1,h2⟩:=h;by_cases e:p.1=k
   ·rw[bR e,bR (h1.symm.trans e)];exact⟨h1,ry⟩
   ·rw[bS e,bS (fun z=>e (h1.trans z))];exact⟨h1,h2⟩
theorem KV.put{aW:List (κ×V)}{vs:List (κ×Value)}(r:KV aW vs)(k:κ)(ry:RelV y u):KV (putK aW k y) (stored vs k u):=by
  unfold putK stored;rw[r.any k];by_cases e:(vs.any fun kv=>decide (kv.1=k))=true
  ·rw[bR e,bR e];exact r.PJ k ry
  ·rw[bS e,bS e];exact Paired.snoc r ⟨rfl,ry⟩
theorem KV.length{aW:List (κ×V)}{vs:List (κ×Value)}(r:KV aW vs):aW.length=vs.length:=Paired.length r
end
theorem Ei{k:Key}(r:RelV (kV k) u):(eE P w).is k u=true:=by
  cases k with
  |inl i=>obtain⟨t,e⟩:=(show ∃t,u=Value.int i t from r);subst e;exact Ar P w i t
  |inr x=>obtain⟨t,e⟩:=(show ∃t,u=Value.str x t from r);subst e;exact As P w x t
theorem yd{P:Program}{w:World}:∀{ks:List Key} {us:dW},Vals (ks.map kV) us→ItemsAre (eE P w) ks us
  |[],_,r=>by rw[mC] at r;cases r;exact .nil
  |k::ks,_,r=>by
   rw[gy] at r;cases r with
   |cons h t=>exact .cons (Ei h) (yd t)
abbrev KT(H:Hp):List (List Key×V)→List (List Key×Addr×Value)→Prop:=Paired fun p q=>p.1=q.1∧H q.2.1=some (.tup (p.1.map kV))∧RelV p.2 q.2.2
theorem KT.val(r:KT H aW xs)(k:List Key):pA (pF aW k) ((atKey xs k).map (·.2)):=by
  induction r with
  |nil=>exact True.intro
  |@cons p q ps qs h t ih =>
   obtain⟨h1,_,h2⟩:=h;by_cases e:p.1=k
   · have e':q.1=k:=h1.symm.trans e;have b:atKey (q::qs) k=some q.2:=by simp[atKey,sJ,e']
     rw[qN e,b];exact h2
   · have e':¬ q.1=k:=fun z=>e (h1.trans z);have b:atKey (q::qs) k=atKey qs k:=by simp[atKey,sJ,e']
     rw[qO e,b];exact ih
theorem KT.PJ(r:KT H aW xs)(k:List Key)(ry:RelV y u):KT H (aW.map fun kv=>if kv.1=k then(kv.1,y) else kv) (xs.map (putAt k u)):=by
  induction r with
  |nil=>exact .nil
  |@cons p q ps qs h t ih =>
   rw[gy,gy];refine .cons ?_ ih;obtain⟨h1,h2,h3⟩:=h;unfold putAt;by_cases e:p.1=k
   ·rw[bR e,bR (h1.symm.trans e)];exact⟨h1,h2,ry⟩
   ·rw[bS e,bS (fun z=>e (h1.trans z))];exact⟨h1,h2,h3⟩
theorem KT.put(r:KT H aW xs)(k:List Key)(hb:H b=some (.tup (k.map kV)))(ry:RelV y u):KT H (putK aW k y) (storedH xs k b u):=by
  have e:(aW.any fun kv=>decide (kv.1=k))=(atKey xs k).isSome:=by rw[Az,(r.val k).F7,Option.isSome_map]
  unfold putK storedH;rw[e];by_cases q:(atKey xs k).isSome=true
  ·rw[bR q,bR q];exact r.PJ k ry
  ·rw[bS q,bS q];exact Paired.snoc r ⟨rfl,hb,ry⟩
theorem KT.keeps(r:KT H aW xs)(ht:∀b ys,H b=some (.tup ys)→H' b=some (.tup ys)):KT H' aW xs :=
  Paired.HF r fun _ _ z=>⟨z.1,ht _ _ z.2.1,z.2.2⟩
section
variable {P:Program} {w:World} {H:Hp} {h:Heap} {a:Addr}
theorem NQ{u:HO}(ok:oM P w H h)(e:Rd H a u):bU P w H h a u:=e.ok ok
theorem AA{aW:List (Key×V)}(ok:oM P w H h)(e:Rd H a (.dK aW)):aW.length≤sizeLine∧(a==sysModules)=false∧∃vs,KV aW vs∧h.DictOf (eE P w) a vs :=
  show bU P w H h a (.dK aW) from NQ ok e
theorem Sn{aW:List (Key×V)}(ok:oM P w H h)(e:H a=some (.dK aW)):aW.length≤sizeLine∧(a==sysModules)=false∧∃vs,KV aW vs∧h.DictOf (eE P w) a vs:=AA ok (.inl e)
theorem y8{ks:List Key}(ok:oM P w H h)(e:H a=some (.tup (ks.map kV))):(tupleKind (eE P w)).is h ks a:=by
  obtain⟨_,its,r,o,h1,h2,n,h3⟩:=(show bU P w H h a (.tup (ks.map kV)) from ok a _ e)
  exact⟨o,its.toArray,n,h1,h2,h3,by simpa using yd r⟩
theorem AF(ok:oM P w H h)(e:Rd H a (.dT aW)):aW.length≤sizeLine∧(a==sysModules)=false∧∃xs,KT H aW xs∧h.DictOfH (tupleKind (eE P w)) a xs:=by
  obtain⟨z,y,xs,r,o,es,ep,h1,h2,h3,h4,h5⟩:=(show bU P w H h a (.dT aW) from NQ ok e)
  refine⟨z,y,xs,r,o,es,ep,h1,h2,h3,h4,fun x hx=>?_,h5⟩;have all:∀{l:List (List Key×V)} {m:List (List Key×Addr×Value)},KT H l m→∀x∈m,(tupleKind (eE P w)).is h x.1 x.2.1:=by
    intro l m q;induction q with
    |nil=>intro x hx;exact nomatch hx
    |@cons p q ps qs hq t ih =>
     intro x hx;rcases gB.mp hx with e|hx
     ·subst e;exact y8 ok (by rw[←hq.1];exact hq.2.1)
     ·exact ih x hx
  exact all r x hx
theorem Sr(ok:oM P w H h)(e:H a=some (.dT aW)):aW.length≤sizeLine∧(a==sysModules)=false∧∃xs,KT H aW xs∧h.DictOfH (tupleKind (eE P w)) a xs:=AF ok (.inl e)
end
def F8(H:Hp)(a:Addr)(y:V)(r:Option V):Prop :=
  (∃aW k,Rd H a (.dK aW)∧y=kV k∧r=pF aW k)∨∃aW k b,Rd H a (.dT aW)∧y=.ref b∧H b=some (.tup (k.map kV))∧r=pF aW k
def Io(H:Hp)(a:Addr)(y v:V)(H':Hp):Prop :=
  (∃aW k,H a=some (.dK aW)∧y=kV k∧aW.length<sizeLine∧H'=upd H a (.dK (putK aW k v))) ∨
  ∃aW k b,H a=some (.dT aW)∧y=.ref b∧H b=some (.tup (k.map kV))∧aW.length<sizeLine∧H'=upd H a (.dT (putK aW k v))
theorem Io.t{k:List Key}(e:H a=some (.dT aW))(eb:H b=some (.tup (k.map kV)))(hl:aW.length<sizeLine):Io H a (.ref b) v (upd H a (.dT (putK aW k v))):=.inr ⟨aW,k,b,e,rfl,eb,hl,rfl⟩
section
variable {X:Cx} {pins:jc} {σ:St} {H:Hp} {s:Shared} {a:Addr} {y v:V} {u r:Value} {o:Option V} {A:Around} {E:kX}
theorem Inv.big(I:Inv X pins σ H s):sysModules<s.heap.objs.size:=by have h:mainGlobals<s.heap.objs.size:=(I.mod.glob.keeps I.bk).lt;exact Nat.lt_trans (by decide) h
theorem F9(hu:A.units+1<cLine)(I:Inv X pins σ H s)(g:F8 H a y (some v))(ry:RelV y u)(h:∀w' s',Inv X pins σ H s'→RelV v w'→Q w' s'):wpAny (model X.prog X.w) A (getItem (.ref a) u) Q E s:=by
  rcases g with⟨aW,k,e,ey,l⟩|⟨aW,k,b,e,ey,eb,l⟩
  ·subst ey;obtain⟨z,hd,vs,rel,dd⟩:=AA I.cf e;obtain⟨w',hw,Ij⟩:=pA.some_of (v:=v) (o:=valueAt vs k) (by rw[l];exact rel.val k);exact wpAny_getItem_of (Ei ry) dd.mapOf hw (h w' _ (I.tok _) Ij)
  ·subst ey;cases(show u=Value.ref b from ry);obtain⟨z,hd,xs,rel,dd⟩:=AF I.cf e;obtain⟨w',hw,Ij⟩:=pA.some_of (v:=v) (o:=(atKey xs k).map (·.2)) (by rw[l];exact rel.val k);obtain⟨p,hp,Vc⟩:=pv.mp hw;refine wpAny_getItem_heap (tupleKind_room_in1 hu) (y8 I.cf eb) dd hp ?_;rw[Vc];exact h w' _ (I.tok _) Ij
theorem Ej{ob:HO}(I:Inv X pins σ H s)(mu:Ri (H a))(hs:Heap.SameBut a s.heap h')(he:∃q,h'.get? a=some q)(new:bU X.prog X.w (upd H a ob) h' a ob):Inv X pins σ (upd H a ob) { s with heap:=h',toks:=t' } :=
  I.write (x:=a) (e:=a) mu (.inl rfl) (fun b q hb z=>(hs.2 b hb).trans z) he new
theorem PK{aW:List (Key×V)}{vs:List (Key×Value)}(z:aW.length≤sizeLine)(hd:(a==sysModules)=false)(rel:KV aW vs)(dd:h'.DictOf (eE P w) a vs):bU P w H' h' a (.dK aW):=⟨z,hd,vs,rel,dd⟩
theorem Ga{Q:Unit→Shared→Prop}(hu:A.units+1<cLine)(I:Inv X pins σ H s)(g:Io H a y v H')(ry:RelV y u)(rv:RelV v r)(h:∀s',Inv X pins σ H' s'→Q () s'):wpAny (model X.prog X.w) A (setItem (.ref a) u r) Q E s:=by
  rcases g with⟨aW,k,e,ey,l,eH⟩|⟨aW,k,b,e,ey,eb,l,eH⟩
  · subst ey eH;obtain⟨z,hd,vs,rel,dd⟩:=Sn I.cf e;have hz:vs.length≤sizeLine:=by rw[←rel.length];exact z
    have hl:(putK aW k v).length≤sizeLine:=by have:=nO aW k v;omega
    refine wpAny_setItem_pairs (hsz:=hz) (Ei ry) dd fun h' PL hs=>h _ ?_;have he:∃q,h'.get? a=some q:=let ⟨q,_,_,hq,_⟩:=PL;⟨q,hq⟩
    exact Ej I (by rw[e];exact True.intro) hs he (PK hl hd (rel.put k rv) PL)
  · subst ey eH;cases(show u=Value.ref b from ry);obtain⟨z,hd,xs,rel,dd⟩:=Sr I.cf e;have hz:xs.length≤sizeLine:=by rw[←Paired.length rel];exact z
    have hl:(putK aW k v).length≤sizeLine:=by have:=nO aW k v;omega
    refine wpAny_setItem_heap (hsz:=hz) (tupleKind_room_in1 hu) (y8 I.cf eb) dd fun h' PL hs=>h _ ?_;obtain⟨q,es,ep,hq,h2,h3,h4,_,h5⟩:=PL;refine Ej I (by rw[e];exact True.intro) hs ⟨q,hq⟩ ⟨hl,hd,_,(rel.put k eb rv).keeps fun c ys ec=>?_,q,es,ep,hq,h2,h3,h4,h5⟩;rw[ay (u6 ec e (fun z=>nomatch z))];exact ec
end
def PN(i:Expr):Prop:=∀ov iv,subscripted i false ov iv=operate [ov,iv] (getItem ov iv)
theorem LV{prog:Program}{env:Env}{value slice:Expr}{T id:String}(hl:typeLookup (.type T) "__getitem__"=pure (some (.builtin id)))(hs:PN slice)(h:wpAny (model prog w) A (eval value env) (fun o s₁=>wpAny (model prog w) A (eval slice env) (fun i s₂=>s₂.TypeIs o T∧wpAny (model prog w) A (getItem o i) Q E s₂) E s₁) E s):wpAny (model prog w) A (eval (.Subscript value slice pos) env) Q E s:=by
  refine Subscript_ (j4 h (fun o s₁ h₁=>j4 h₁ (fun i s₂ h₂=>?_) fun _ _ x=>x) fun _ _ x=>x);obtain⟨hT,h₂⟩:=h₂;unfold subscriptTail;refine de ?_;rw[getitemInPython_of_ne hT.not_modules];refine de (wpAny_specialOf hT hl ?_);have fin:wpAny (model prog w) A (subscripted slice false o i) (fun r s₃=>wpAny (model prog w) A (letTemporaryGo value o r>>=fun _=>pure r) Q E s₃) E s₂:=by rw[hs o i];exact wpAny_operating (j4 h₂ (fun r s₃ h₃=>de (wpAny_letTemporaryGo (cU h₃))) fun _ _ x=>x)
  first
    |exact cU (de fin)
    |exact de (cU (de fin))
    |exact de fin
theorem AG{o:Option V}(I:Inv X pins σ H s)(g:F8 H a y o):s.TypeIs (.ref a) "dict":=by
  rcases g with⟨aW,k,e,_,_⟩|⟨aW,k,b,e,_,_,_⟩
  ·obtain⟨_,_,vs,_,dd⟩:=AA I.cf e;exact dd.typeIs
  ·obtain⟨_,_,xs,_,dd⟩:=AF I.cf e;exact dd.typeIs
def Ss(td ty:TE):TE:=fun σ H Q=>td σ H fun x H1=>ty σ H1 fun y H2=>∃a v,x=.ref a∧F8 H2 a y (some v)∧Q v H2
def Sv(td ty tv:TE):TS:=fun D σ H=>tv σ H fun v H1=>td σ H1 fun x H2=>ty σ H2 fun y H3=>∃a H4,x=.ref a∧Io H3 a y v H4∧D.nx σ H4
section
variable {X:Cx} {o i e value:Expr} {pos pos' HY:Pos} {td ty tv:TE}
theorem LW(hu:X.A.units+1<cLine)(ho:PE X o td)(hi:PE X i ty)(hs:PN i):PE X (.Subscript o i pos) (Ss td ty):=by intro pins s σ H Q I h;refine LV PySem.F.slot_dict_getitem.lookup hs (fW (ho pins s σ H _ I h) fun u s1 ⟨x,H1,I1,rx,q1⟩=>fW (hi pins s1 σ H1 _ I1 q1) fun iv s2 ⟨y,H2,I2,ry,a,v,ex,g,q2⟩=>?_);subst ex;obtain rfl:u=Value.ref a:=rx;exact⟨AG I2 g,F9 hu I2 g ry fun w' s3 I3 Ij=>⟨v,H2,I3,Ij,q2⟩⟩
theorem LX(hu:X.A.units+1<cLine)(ho:PE X o td)(hi:PE X i ty)(hv:PE X value tv)(hs:swapsWith value (some (.Subscript o i pos')) pos.line X.env=pure false):PS X (.Assign [.Subscript o i pos'] value pos) (Sv td ty tv):=by
  intro pins s σ H D I h;refine wpAny_Assign_Subscript (fW (hv pins s σ H _ I h) fun r s1 ⟨v,H1,I1,rv,q1⟩=>fW (ho pins s1 σ H1 _ I1 q1) fun u s2 ⟨x,H2,I2,rx,q2⟩=>fW (hi pins s2 σ H2 _ I2 q2) fun iv s3 ⟨y,H3,I3,ry,a,H4,ex,g,q3⟩=>?_) hs;subst ex;obtain rfl:u=Value.ref a:=rx;exact Ga hu I3 g ry rv fun s4 I4=>⟨σ,H4,I4,q3⟩
end
theorem Ip(h:Heap)(hb:sysModules<h.objs.size):bU P w H (h.push { cls:=.type "dict",data:=.dict #[] }) h.objs.size (.dT []) :=
  ⟨pY _,beq_eq_false_iff_ne.mpr (Ne.symm (iP hb)),[],.nil,_,#[],0,lO _ rfl,⟨rfl,rfl,rfl⟩,rfl,rfl,List.nodup_nil⟩
def PQ:TE:=fun _ H Q=>∀p,H p=none→Q (.ref p) (upd H p (.dT []))
section
variable {X:Cx} {pos:Pos}
theorem Iq:PE X (.Dict [] [] pos) PQ:=fun pins s σ H Q I h =>
  wpAny_Dict_empty ⟨.ref s.heap.objs.size,_,I.laid (a:=s.heap.objs.size) (o:=.dT []) (t':=s.toks) (fun _ _ q=>nE _ q) (cN _) (Ip s.heap I.big),rfl,h _ (I.cf.fresh (cN _))⟩
end
structure M1 (X:Cx) (o:Expr) (m:Str) (apos:Pos) (e:Expr) (eU:Pos):Prop where
  base:attributeBase o m X.env (eval o X.env)=eval o X.env
  few:((backTo eU (starEach [e] X.env)).all (fun x=>!x.1)&&(backToKw eU (keywordEach [] X.env)).all (fun x=>x.1.isSome)
    && decide (([e]:List Expr).length+([]:List Keyword).length+(if ([]:List Keyword).isEmpty then 0 else 1)<30))=true
  line:(apos.endLine==eU.line)=true
  trees:backTo eU (starEach [e] X.env)=[(false,eval e X.env)]
structure M2 (X:Cx) (o:Expr) (m:Str) (apos:Pos) (e f:Expr) (eU:Pos):Prop where
  base:attributeBase o m X.env (eval o X.env)=eval o X.env
  few:((backTo eU (starEach [e,f] X.env)).all (fun x=>!x.1)&&(backToKw eU (keywordEach [] X.env)).all (fun x=>x.1.isSome)
    && decide (([e,f]:List Expr).length+([]:List Keyword).length+(if ([]:List Keyword).isEmpty then 0 else 1)<30))=true
  line:(apos.endLine==eU.line)=true
  trees:backTo eU (starEach [e,f] X.env)=[(false,eval e X.env),(false,eval f X.env)]
def IsD(H:Hp)(a:Addr):Prop:=(∃aW,Rd H a (.dK aW))∨∃aW,Rd H a (.dT aW)
theorem PR(I:Inv X pins σ H s)(d:IsD H a):s.TypeIs (.ref a) "dict"∧(∀b,Value.ref a=.ref b→∃ob,s.heap.get? b=some ob∧ob.dict=none)∧(a==sysModules)=false:=by
  rcases d with⟨aW,e⟩|⟨aW,e⟩
  ·obtain⟨_,hd,vs,_,dd⟩:=AA I.cf e;refine⟨dd.typeIs,fun b q=>?_,hd⟩;cases q;obtain⟨ob,_,_,h1,h2,_⟩:=dd;exact⟨ob,h1,h2.2.1⟩
  ·obtain⟨_,hd,xs,_,dd⟩:=AF I.cf e;refine⟨dd.typeIs,fun b q=>?_,hd⟩;cases q;obtain⟨ob,_,_,h1,h2,_⟩:=dd;exact⟨ob,h1,h2.2.1⟩
section
variable {X:Cx} {pins:jc} {σ:St} {H:Hp} {s:Shared} {a:Addr} {y d:V} {u r:Value} {o:Option V} {A:Around} {E:kX}
theorem PV(hu:A.units+1<cLine)(I:Inv X pins σ H s)(g:F8 H a y o)(ry:RelV y u)(rd:RelV d r)(h:∀w' s',Inv X pins σ H s'→RelV (o.getD d) w'→Q w' s'):wpAny (model X.prog X.w) A (call (.builtin "dict.get") [.ref a,u,r]) Q E s:=by
  rcases g with⟨aW,k,e,ey,l⟩|⟨aW,k,b,e,ey,eb,l⟩
  ·subst ey;obtain⟨z,hd,vs,rel,dd⟩:=AA I.cf e;refine call_meetsIn PySem.F.slot_dict_get dd.typeIs PySem.F.entry_dict_get (PySem.F.args_dict_get_3 _ _ _) (meets_dict_get_default (eE X.prog X.w) a (Ei ry) hd r) ⟨_,dd.mapOf,h _ _ (I.tok _) ?_⟩;rw[l];exact(rel.val k).getD rd
  ·subst ey;cases(show u=Value.ref b from ry);obtain⟨z,hd,xs,rel,dd⟩:=AF I.cf e;refine call_meetsIn PySem.F.slot_dict_get dd.typeIs PySem.F.entry_dict_get (PySem.F.args_dict_get_3 _ _ _) (meetsH_dict_get_default (tupleKind (eE X.prog X.w)) a b hd r) ⟨tupleKind_room_in1 hu,k,xs,y8 I.cf eb,dd,h _ _ (I.tok _) ?_⟩;rw[l];exact(rel.val k).getD rd
end
def PX(td ty tx:TE):TE:=fun σ H Q=>td σ H fun x H1=>∃a,x=.ref a∧IsD H1 a∧ty σ H1 fun y H2=>tx σ H2 fun z H3=>∃o,F8 H3 a y o∧Q (o.getD z) H3
section
variable {X:Cx} {o e f:Expr} {apos eU:Pos} {td ty tx:TE}
theorem Ir(hu:X.A.units+1<cLine)(ho:PE X o td)(he:PE X e ty)(hf:PE X f tx)(m:M2 X o "get" apos e f eU):PE X (.Call (.Attribute o "get" apos) [e,f] [] eU) (PX td ty tx):=by
  intro pins s σ H Q I h;refine wpAny_Call_method m.base m.few m.line PySem.F.plainAttrs_dict PySem.F.slot_dict_get PySem.F.type_dict_get (fW (ho pins s σ H _ I h) fun u s1 ⟨x,H1,I1,rx,a,ex,d,q1⟩=>?_);subst ex;obtain rfl:u=Value.ref a:=rx;obtain⟨t1,t2,_⟩:=PR I1 d;refine⟨t1,t2,?_⟩;rw[m.trees];refine Calls.callWith_builtin rfl (Calls.evalArgs_plain (Calls.spliced_cons (fW (he pins s1 σ H1 _ I1 q1) fun iv s2 ⟨y,H2,I2,ry,q2⟩ =>
    Calls.spliced_cons (fW (hf pins s2 σ H2 _ I2 q2) fun fv s3 ⟨z,H3,I3,rz,ov,g,q3⟩=>Calls.spliced_nil ?_))))
  exact PV hu I3 g ry rz fun w' s4 I4 Ij=>⟨_,H3,I4,Ij,q3⟩
end
end L2
namespace Att
open PySem PySem.W PySem.Calls PyProof.Rows
theorem uz{P:Params}:∀(ns:bD) (vs:dW),WellAll P h vs (ns.map WData.int)→IntsAre vs ns:=by
  intro ns;induction ns with
  |nil=>intro vs w;rw[mC] at w;cases w;exact .nil
  |cons n ns ih =>
   intro vs w;rw[gy] at w;cases w with
   |cons a b=>cases a;exact .cons _ _ (ih _ b)
theorem Gb{l:OpenLaw}(hn:l.most=some n){P:Params}{args:List WData}{vals:dW}(LY:l.row.toRowW.claim.pre args=true)(WW:WellAll P h vals args):∃a vs ns,vals=[Value.ref a]∧args=[WData.list (ns.map WData.int)]∧h.get? a=some { cls:=.type "list",data:=.seq vs.toArray }∧IntsAre vs ns∧ns.length≤n:=by
  have hsh:WShape.hasAll [] args [.list .int]=true:=(pre_splitW LY).1;have hc:l.pre.holds [] { args:=args }=true:=(pre_splitW LY).2;obtain⟨d,r,rfl,h1,h2⟩:=hasAllW_cons hsh;obtain rfl:=hasAllW_nil h2;obtain⟨xs,rfl,h3⟩:=hasW_list h1;obtain⟨ns,rfl⟩:=items_int h3;have hlen:ns.length≤n:=by
    unfold OpenLaw.pre at hc;have h4:(WTm.not (.lt (.lit (.int (n:Int))) (.len (.arg 0)))).holds [] { args:=[.list (ns.map .int)] }=true:=by have h4:=(holds_andW hc).1;rw[hn] at h4;exact h4
    have h5:=condW_of h4 (w_not (w_lt w_lit (w_len_list (w_arg rfl))));rw[dX] at h5;refine Nat.le_of_not_lt fun q=>?_;have q':(n:Int)<((ns.length:Nat):Int):=by omega
    first
      |(rw[km q'] at h5;exact absurd h5 (by decide))
      |(simp at h5;omega)
  cases WW with
  |cons w1 w2 =>
   cases w2;cases w1 with
   |list ho CF=>exact⟨_,_,ns,rfl,rfl,ho,uz ns _ CF,hlen⟩
theorem Gd(l:OpenLaw)(args:List WData):l.row.toRowW.claim.post args (.bool true) args=true :=
  postW_of (r:=l.row.toRowW) (X:=(true==true))
    (show WShape.has [] (.bool true) .bool=true by first|rfl|decide|simp[WShape.has,WShape.arms,WShape.armsAll])
    (show(WTm.eq .res (.lit (.bool true))).value [] { args:=args,res:=some (.bool true),after:=args }=some (.bool (true==true)) from w_eq_bool (w_res rfl) w_lit) rfl
theorem AH{l:OpenLaw}{q:Program}{loose:g7}{d:DefRec}(hn:l.most=some n)(Sw:d.params.defaults=[])(call:∀(w:World) (s₀ s₁:Shared) (mg mb:Str→fV) (fa:Addr) (o:Obj) (pm cd doc:Value) (a:Addr) (vs:dW) (ns:bD),Ground q loose [] XP w s₀ mg mb s₁.heap→YP w s₁.heap→s₁.heap.get? fa=some o→o.data=.func (docDef d.name d.params d.body d.scope pm cd doc)→s₁.heap.CodeRec cd d.name→mg d.name=some (.ref fa)→s₁.heap.get? a=some { cls:=.type "list",data:=.seq vs.toArray }→IntsAre vs ns→ns.length≤n→s₁.gens=#[]→codeAny (model l.prog w) callerA (.call (.ref fa) ⟨[.ref a],[]⟩) (fun r s'=>r=.ok (.ret (.bool true))∧OldK s₁.heap s'.heap∧s'.os=s₁.os∧AllBare s'.gens) s₁):WalkO q loose XP YP l.row.toRowW d [] (fun f vs=>PySem.call f vs):=by
  intro w s₀ s₁ mg mb G Y fa o pm cd doc dV kV ho hd ji hD Sx hg args vals as LY hlay hrd WW WX;obtain rfl:dV=.none:=Dflts.none hD Sw;obtain rfl:kV=.none:=Dflts.noKw hD;obtain⟨a,vs,ns,rfl,rfl,PY,hints,hlen⟩:=Gb hn LY WW;refine enter_call (codeAny_mono (call w s₀ s₁ mg mb fa o pm cd doc a vs ns G Y ho (fd_plain hd) ji Sx PY hints hlen hg) fun r s' hq=>?_);obtain⟨rfl,h2,h3,h4⟩:=hq;exact⟨.inl ⟨.bool true,.bool true,[],rfl,fun _=>rfl,.bool true,Gd l _,fun _=>⟨List.Pairwise.nil,fun _ hm=>(nomatch hm)⟩⟩,h2,h3,h4⟩
end Att
namespace L2
open PySem PySem.Spec PyProof.Rows
theorem sN:∀{vs:dW} {ns:bD},IntsAre vs ns→Vals (ns.map V.int) vs
  |_,_,.nil=>.nil
  |_,_,.cons n t h=>.cons ⟨t,rfl⟩ (sN h)
def LZ(H:Hp):Prop:=∀b,H b=none∨(∃o xs,H b=some (.pM o (.lst xs))∧xs.length≤sizeLine)∨∃ps,H b=some (.yQ ps)
abbrev kY:Ec:=fun _ _ _ _ _ _=>False
abbrev E0:XK:=fun _ _ _=>False
theorem NR:Passes kY X E0:=fun _ _ _ _ _ _ _ h=>h.elim
structure nc (K:PySem.W.Frag) (x qual:Str) (st:Stmt) (f:Addr) (fd:FuncData):Prop where
  ex:∃(oc:Value) (od:Option Addr) (kV doc pm:Value) (an:Option Addr) (fT ct:Value) (HC:Array fV),
    fd=fnOf x qual (bA st) (bf st) (ah st) .none kV doc pm an fT ct∧K.lookup f=some ⟨oc,od,.func fd,HC⟩∧codeIn K fT qual=true
  kp:keepIn K (.ref f)=true
section
variable {P:Program} {w:World} {K:PySem.W.Frag} {mg:Str→fV} {base:Heap}
theorem nc.ok{st:Stmt}{ps:g7}{sp:Sp}(F:nc K x qual st f fd)(S:bB N ps (ah st))(len:∀vs H Q E,sp vs H Q E→vs.length=ps.length)(vh:∀(fT:Value) (A:Around) (outer:List Env) (s:Shared) (H:Hp) (vs:List V) (Q:VK) (E:XK),eW k (A.deeper (envOfC qual (ah st) s.heap.objs.size f fT))→sp vs H Q E→∃t,xZ (cX kY P w K mg base N qual (ah st) f fT A outer s H E).Cp (bf st) t∧t { nx:=fun _ H'=>Q .non H',rt:=Q } (start N vs) H):dw P w K mg base kY (k+1) f fd ps sp:=by
  obtain⟨oc,od,kV,doc,pm,an,fT,ct,HC,rfl,lk,ji⟩:=F.ex;refine Ee lk ji S len fun A outer s H vs Q E hr NP=>?_;obtain⟨t,h,q⟩:=vh fT A outer s H vs Q E hr NP;exact⟨t,h.Cp,q⟩
theorem nc.binds{st:Stmt}{ps:g7}(F:nc K x qual st f fd)(h:∀(kV doc pm:Value) (an:Option Addr) (fT ct:Value) (us:dW),us.length=ps.length→bindArgs (fnOf x qual (bA st) (bf st) (ah st) .none kV doc pm an fT ct) ⟨us,[]⟩=pure (ps.zip us)):Binds K fd ps []:=by
  obtain⟨oc,od,kV,doc,pm,an,fT,ct,HC,rfl,lk,ji⟩:=F.ex;exact .all (h kV doc pm an fT ct)
theorem cG{st:Stmt}{kV doc fT:Value}(l:K.lookup f=some ⟨oc,od,.func (fnOf x qual (bA st) (bf st) (ah st) .none kV doc pm an fT ct),HC⟩)(c:codeIn K fT qual=true)(k:keepIn K (.ref f)=true):nc K x qual st f (fnOf x qual (bA st) (bf st) (ah st) .none kV doc pm an fT ct):=⟨⟨oc,od,kV,doc,pm,an,fT,ct,HC,rfl,l,c⟩,k⟩
end
theorem Ek(hr:eW k A):A.units+1<cLine:=Nat.lt_of_le_of_lt (Nat.add_le_add_left (by decide:1≤64) _) hr.units
theorem Ge(h:n≤1000):n<sizeLine:=Nat.lt_of_le_of_lt h (by decide)
theorem WY{A B:Prop}(h:B):if false=true then A else B:=by rw[bS jZ];exact h
theorem WZ{A B:Prop}(h:A):if true=true then A else B:=by rw[bR rfl];exact h
def cq(H H':Hp):Prop:=∀b o,H b=some o→H' b=some o
theorem cq.refl(H:Hp):cq H H:=fun _ _ h=>h
theorem cq.trans{H1 H2:Hp}(a:cq H H1)(b:cq H1 H2):cq H H2:=fun c o h=>b c o (a c o h)
theorem cq.free(e:cq H H'){l:Addr}(h:H' l=Option.none):H l=Option.none:=by
  cases q:H l with
  |none=>rfl
  |some o=>rw[e l o q] at h;cases h
theorem cq.seq{K:PySem.W.Frag}{xs:List V}(e:cq H H')(h:jE K H a xs):jE K H' a xs:=by
  rcases h with(h|⟨o,h⟩)|h
  ·exact .inl (.inl (e _ _ h))
  ·exact .inl (.inr ⟨o,e _ _ h⟩)
  ·exact .inr h
section
variable {κ:Type} [DecidableEq κ]
theorem El:∀{l:List κ} {k:κ},l.Nodup→¬ k∈l→(l++[k]).Nodup
  |[],k,_,_=>by simp
  |a::r,k,h,hk=>by
   obtain⟨h1,h2⟩:=List.nodup_cons.mp h;show(a::(r++[k])).Nodup;refine List.nodup_cons.mpr ⟨fun m=>?_,El h2 fun m=>hk (gB.mpr (Or.inr m))⟩;rcases sI.mp m with q|q
   ·exact h1 q
   ·exact hk (gB.mpr (Or.inl (List.mem_singleton.mp q).symm))
end
def jM(cells:List (Str×Addr)):List (Str×NameKind)→List (Str×Addr)→List (Str×Addr)
  |[],acc=>acc
  |(n,k)::r,acc=>jM cells r (match k,cells.lookup n with|.free,some c=>(n,c)::acc|_,_=>acc)
theorem xB{env:Env}(h:∀x∈scope.names,x.2=.free→∃c,env.cells.lookup x.1=some c):closureFor scope env=pure (jM env.cells scope.names []):=by
  have go:∀(names:List (Str×NameKind)) (acc:List (Str×Addr)),(∀x∈names,x.2=.free→∃c,env.cells.lookup x.1=some c) →
      (forIn names acc (fun(x:Str×NameKind) (cs:List (Str×Addr))=>if (x.2==NameKind.free)=true then(do let c ←cellOf env x.1;pure (ForInStep.yield ((x.1,c)::cs)):Sem _) else pure (ForInStep.yield cs)):Sem (List (Str×Addr)))=pure (jM env.cells names acc):=by
    intro names;induction names with
    |nil=>intro acc _;rfl
    |cons x r ih =>
     intro acc hx;obtain⟨n,k⟩:=x;rw[List.forIn_cons];by_cases hk:k=.free
     · subst hk;obtain⟨c,hc⟩:=hx (n,.free) hI rfl;have e:cellOf env n=pure c:=by unfold cellOf;rw[hc]
       simp only[beq_self_eq_true,iq,e,pure_bind];rw[ih _ fun y hy=>hx y (h9 _ hy)];simp[jM,hc]
     · have hb:(k==NameKind.free)=false:=by simpa using hk
       simp only[hb,xq,mE,pure_bind];rw[ih _ fun y hy=>hx y (h9 _ hy)]
       congr 1
       cases k<;>first|exact absurd rfl hk|rfl
  have g:=go scope.names [] h;unfold closureFor;rw[show(fun(x:Str×NameKind) (r:List (Str×Addr))=>_)=_ from rfl] at g;refine Eq.trans ?_ g
  first|rfl|exact bind_pure _|(simp only[bind_pure];rfl)
theorem vm(cells:List (Str×Addr)):∀(names:List (Str×NameKind)) (acc:List (Str×Addr)) (x:Str) (c:Addr),(∀y d,acc.lookup y=some d→cells.lookup y=some d)→(jM cells names acc).lookup x=some c→cells.lookup x=some c
  |[],acc,x,c,ha,h=>ha x c h
  |(n,k)::r,acc,x,c,ha,h=>by
   refine vm cells r _ x c (fun y d hy=>?_) h;split at hy
   · rename_i e1 e2;rw[u3] at hy;cases hb:y==n with
     |true=>rw[hb] at hy;cases hy;have:y=n:=by simpa using hb
            rw[this];exact e2
     |false=>rw[hb] at hy;exact ha y d hy
   ·exact ha y d hy
theorem ua(cells:List (Str×Addr)):∀(names:List (Str×NameKind)) (acc:List (Str×Addr)) (x:Str) (c:Addr),(∀y d,acc.lookup y=some d→cells.lookup y=some d)→cells.lookup x=some c→acc.lookup x=some c→(jM cells names acc).lookup x=some c
  |[],acc,x,c,ha,hc,h=>h
  |(n,k)::r,acc,x,c,ha,hc,h=>by
   refine ua cells r _ x c (fun y d hy=>?_) hc ?_
   · split at hy
     · rename_i e1 e2;rw[u3] at hy;cases hb:y==n with
       |true=>rw[hb] at hy;cases hy;have:y=n:=by simpa using hb
              rw[this];exact e2
       |false=>rw[hb] at hy;exact ha y d hy
     ·exact ha y d hy
   · split
     · rename_i e1 e2;rw[u3];cases hb:x==n with
       |true=>have:x=n:=by simpa using hb
              rw[this,e2] at hc;rw[hc]
       |false=>exact h
     ·exact h
theorem p7(cells:List (Str×Addr)):∀(names:List (Str×NameKind)) (acc:List (Str×Addr)) (x:Str) (c:Addr),(∀y d,acc.lookup y=some d→cells.lookup y=some d)→cells.lookup x=some c→(x,NameKind.free)∈names→(jM cells names acc).lookup x=some c
  |[],acc,x,c,ha,hc,h=>nomatch h
  |(n,k)::r,acc,x,c,ha,hc,h=>by
   have NT:∀y d,(match k,cells.lookup n with|.free,some c=>(n,c)::acc|_,_=>acc:List (Str×Addr)).lookup y=some d→cells.lookup y=some d:=fun y d hy=>by
     split at hy
     · rename_i e1 e2;rw[u3] at hy;cases hb:y==n with
       |true=>rw[hb] at hy;cases hy;have:y=n:=by simpa using hb
              rw[this];exact e2
       |false=>rw[hb] at hy;exact ha y d hy
     ·exact ha y d hy
   rcases gB.mp h with e|h
   ·injection e with e1 e2;subst e1 e2;refine ua cells r _ _ c NT hc ?_;rw[hc];simp[u3]
   ·exact p7 cells r _ x c NT hc h
theorem Sy{a b c:Nat}(h:a<b)(e:c=b+1):a≠c:=by omega
theorem W0{a b c:Nat}(h:a<b)(e:c=b+1):a<c:=by omega
theorem Iu{x d a:Nat}(h:x<d)(h2:d≤a)(e:x=a):False:=by omega
theorem lookup_mem{α:Type}:∀{l:List (Str×α)} {x:Str} {k:α},l.lookup x=some k→(x,k)∈l
  |[],_,_,h=>by simp at h
  |(n,j)::r,x,k,h=>by
   rw[u3] at h;cases hb:x==n with
   |true =>
    rw[hb] at h;have e:x=n:=by simpa using hb
    cases h;rw[e];exact hI
   |false=>rw[hb] at h;exact h9 _ (lookup_mem h)
theorem nP{env:Env}:∀(names:List (Str×NameKind)) (x:Str),(names.map fun(n,k)=>if (k==NameKind.free&&env.scope.kind==.function&&env.kindOf n==some .cell) then(n,NameKind.cell) else(n,k)).lookup x=(names.lookup x).map fun k=>if (k==NameKind.free&&env.scope.kind==.function&&env.kindOf x==some .cell) then NameKind.cell else k:=by
  intro names x;induction names with
  |nil=>rfl
  |cons p r ih =>
   rcases p with⟨n,k⟩
   have one:∀c:Bool,(if c=true then(n,NameKind.cell) else(n,k))=(n,if c=true then NameKind.cell else k):=fun c=>by cases c<;>rfl
   simp only[gy,one,u3];by_cases e:x=n
   ·subst e;simp only[beq_self_eq_true,gT]
   · have f:(x==n)=false:=by simpa using e
     simp only[f];exact ih
def CG(N tgs:g7)(fi:List Nat):g7:=tgs++fi.map fun j=>N.getD j Str.empty
def nQ(nt:Nat)(fi:List Nat)(σ:St):St:=List.replicate nt none++fi.map fun j=>(σ[j]?).getD none
def jk(X:Cx)(tgs:g7)(fi:List Nat)(scope:Scope)(C:Addr)(ex:List Addr)(s:Shared)(H:Hp):Cx :=
  { X with N:=CG X.N tgs fi,s₀:=s,H₀:=H,env:=compEnvC scope (jM X.env.cells scope.names []) C X.env,outer:=X.stack,stack:=X.stack,ex:=ex,fn:=fun _=>false,xe:=fun _ _=>False }
structure fh (X:Cx) (tgs:g7) (fi:List Nat) (scope:Scope):Prop where
  kind:scope.kind=.function
  cell:∀y∈scope.names,y.2≠.cell
  names:∀y∈scope.names,y.2=.local→scope.names.lookup y.1=some .local
  free:∀y∈scope.names,y.2=.free→X.env.kindOf y.1=some .cell∨X.env.kindOf y.1=some .free
  slots:∀j∈fi,∃x,X.N[j]?=some x∧scope.names.lookup x=some .free
def Sz(osc:Scope)(N:g7)(fi:List Nat)(scope:Scope):Bool :=
  (match scope.kind with|.function=>true|_=>false) &&
  (scope.names.all fun y=>match y.2 with
    |.cell=>false
    |.local=>scope.names.lookup y.1==some NameKind.local
    |.free=>(osc.names.lookup y.1==some NameKind.cell)||(osc.names.lookup y.1==some NameKind.free)
    |_=>true) &&
  (fi.all fun j=>match N[j]? with|some x=>scope.names.lookup x==some NameKind.free|none=>false)
theorem fh.of{tgs:g7}(h:Sz X.env.scope X.N fi scope=true):fh X tgs fi scope:=by
  unfold Sz at h;simp only[qF,List.all_eq_true] at h;obtain⟨⟨h1,h2⟩,h3⟩:=h;refine⟨?_,fun y hy e=>?_,fun y hy e=>?_,fun y hy e=>?_,fun j hj=>?_⟩
  ·cases hk:scope.kind<;>rw[hk] at h1<;>first|rfl|cases h1
  ·have q:=h2 y hy;rw[e] at q;cases q
  ·have q:=h2 y hy;rw[e] at q;simpa using q
  ·have q:=h2 y hy;rw[e] at q;simp only[Bool.or_eq_true,qH] at q;exact q
  · have q:=h3 j hj;cases e:X.N[j]? with
    |none=>rw[e] at q;cases q
    |some x=>rw[e] at q;exact⟨x,rfl,by simpa using q⟩
section
variable {X:Cx} {pins:jc} {σ:St} {H:Hp} {s:Shared} {tgs:g7} {fi:List Nat} {scope:Scope}
theorem fh.SD(B:fh X tgs fi scope)(ok:X.Ok):closureFor scope X.env=pure (jM X.env.cells scope.names []) :=
  xB fun y hy hf=>ok.has y.1 (B.free y hy hf)
theorem ku{c:Addr}(h:(jM X.env.cells scope.names []).lookup x=some c):X.env.cells.lookup x=some c :=
  vm _ _ _ _ _ (fun _ _ z=>by simp at z) h
theorem PZ(B:fh X tgs fi scope)(I:Inv X pins σ H s)(hC:s.heap.objs.size≤C)(hex:∀b∈ex,je X pins H b)(nF:∀b∈ex,b<C):(jk X tgs fi scope C ex s H).Ok where
  mod:=I.ok.mod
  kind:=B.kind
  glob:=I.ok.glob
  blt:=I.ok.blt
  above:=hC
  inj:=fun x y c h1 h2=>I.ok.inj x y c (ku h1) (ku h2)
  has:=fun x h=>by
    have e:∀k,(relabel scope X.env).names.lookup x=some k→(k=.cell∨k=.free)→(x,NameKind.free)∈scope.names:=fun k hk W2=>by
      have e1:(scope.names.lookup x).map (fun k=>if (k==NameKind.free&&X.env.scope.kind==.function&&X.env.kindOf x==some .cell) then NameKind.cell else k)=some k:=by rw[←nP];exact hk
      cases hl:scope.names.lookup x with
      |none=>rw[hl] at e1;cases e1
      |some j =>
       rw[hl] at e1;have hm:=lookup_mem hl;have e2:(if (j==NameKind.free&&X.env.scope.kind==.function&&X.env.kindOf x==some .cell) then NameKind.cell else j)=k:=kj e1;by_cases hj:j=.free
       ·rw[hj] at hm;exact hm
       · have hb:(j==NameKind.free)=false:=by simpa using hj
         rw[hb] at e2;simp only[Bool.false_and,xq,mE] at e2;rcases W2 with z|z
         ·exact absurd (e2.trans z) (B.cell _ hm)
         ·exact absurd (e2.trans z) hj
    have hm:(x,NameKind.free)∈scope.names:=by
      rcases h with h|h
      ·exact e _ h (.inl rfl)
      ·exact e _ h (.inr rfl)
    obtain⟨c,hc⟩:=I.ok.has x (B.free _ hm rfl);exact⟨c,p7 _ _ _ _ _ (fun _ _ z=>by simp at z) hc hm⟩
  Ny:=fun x c h _=>by cases h
  hd:=I.ok.hd
  frames:=I.ok.frames
  OG:=.inl rfl
  RJ:=fun b hb=>⟨iP (nF b hb),fun x c e=>(hex b hb).2.2.2.2.1 x c (ku e)⟩
  bs:=I.bs
  Lb:=qG I.ok.Lb I.sz
  Au:=fun b o e hb=>by
    rcases(hex b hb).2.2.2.1 with z|z
    ·exact I.ok.Au b o e z
    ·exact absurd (jY (dR (I.ok.bs b o e).1) z) (u5 _)
  Ck:=fun b hb z=>by
    rcases gB.mp (I.sL b z) with e|e
    ·exact(hex b hb).2.1 e
    ·exact(hex b hb).2.2.1 e
  pZ:=I.stack
  Lc:=I.uL
theorem Iv(h:(CG N tgs fi)[i]?=some x)(hi:tgs.length≤i):∃j,fi[i-tgs.length]?=some j∧x=N.getD j Str.empty:=by
  unfold CG at h;rw[FJ hi,nI] at h;cases e:fi[i-tgs.length]? with
  |none=>rw[e] at h;cases h
  |some j=>rw[e] at h;exact⟨j,rfl,(kj h).symm⟩
theorem Em{m:Str→fV}(B:fh X tgs fi scope)(I:Inv X pins σ H s)(D5:∀x c,X.env.cells.lookup x=some c→∀v,s.heap.IsCell c v→h'.IsCell c v)(Rp:h'.Ns C m):∃m,h'.Ns (jk X tgs fi scope C ex s H).env.locals m∧∀(i:Nat) (x:Str) (v:V),(jk X tgs fi scope C ex s H).N[i]?=some x→(nQ tgs.length fi σ)[i]?=some (some v)→Am (jk X tgs fi scope C ex s H).env.scope x→∃u,RelV v u∧Look (jk X tgs fi scope C ex s H).env h' m x u:=by
  refine⟨m,Rp,fun i x v e1 e2 e3=>?_⟩;by_cases hi:i<tgs.length
  · exfalso;have e:(nQ tgs.length fi σ)[i]?=some none:=by
      unfold nQ;rw[List.getElem?_append_left (by simpa using hi)];simp[hi]
    rw[e] at e2;cases e2
  · have P0:tgs.length≤i:=Nat.le_of_not_lt hi;obtain⟨j,hj,hx⟩:=Iv e1 P0;obtain⟨y,hy,hf⟩:=B.slots j (List.mem_of_getElem? hj);have exy:x=y:=by
      rw[hx,pw,hy];rfl
    subst exy;have eσ:σ[j]?=some (some v):=by
      unfold nQ at e2;rw[FJ (by simpa using P0),List.length_replicate,nI,hj] at e2;have Vd:(σ[j]?).getD none=some v:=kj e2;cases q:σ[j]? with
      |none=>rw[q] at Vd;cases Vd
      |some w'=>rw[q] at Vd;exact hJ some Vd
    have hkf:=B.free _ (lookup_mem hf) rfl;obtain⟨mm,hn,hl⟩:=I.loc;have vis:Am X.env.scope x:=by
      rcases hkf with z|z
      ·exact .inr (.inl z)
      ·exact .inr (.inr z)
    obtain⟨u,r,l⟩:=hl j x v hy eσ vis;refine⟨u,r,.inr ⟨?_,?_⟩⟩
    · show(relabel scope X.env).names.lookup x=some .cell∨(relabel scope X.env).names.lookup x=some .free;have e:=nP (env:=X.env) scope.names x;rw[hf] at e;have e':(relabel scope X.env).names.lookup x=some (if (NameKind.free==NameKind.free&&X.env.scope.kind==.function&&X.env.kindOf x==some .cell) then NameKind.cell else NameKind.free):=e;rw[e'];split
      ·exact .inl rfl
      ·exact .inr rfl
    · rcases l with⟨z,_⟩|⟨_,c,hc,Rq⟩
      · rcases hkf with q|q
        ·rw[z] at q;cases q
        ·rw[z] at q;cases q
      ·exact⟨c,p7 _ _ _ _ _ (fun _ _ z=>by simp at z) hc (lookup_mem hf),D5 x c hc _ Rq⟩
theorem Inv.block{m:Str→fV}{more:jc}(B:fh X tgs fi scope)(I:Inv X pins σ H s)(hC:s.heap.objs.size≤C)(hex:∀b∈ex,je X pins H b)(nF:∀b∈ex,b<C)(k:∀b o,s.heap.get? b=some o→h'.get? b=some o)(Rp:h'.Ns C m)(SG:∀p∈more,h'.get? p.1=some p.2∧H p.1=none∧p.1≠C∧s.heap.objs.size≤p.1∧∀v,p.2.data≠.cell v) :
    Inv (jk X tgs fi scope C ex s H) (pins++more) (nQ tgs.length fi σ) H { s with heap:=h',toks:=t' } where
  ok:=PZ B I hC hex nF
  os:=rfl
  bare:=I.bare
  base:=Un.kept k
  loc:=Em B I (fun x c _ v ⟨o,ho,hd⟩=>⟨o,k c o ho,hd⟩) Rp
  cell:=fun x c e=>by obtain⟨v,o,ho,hd⟩:=I.cell x c (ku e);exact⟨v,o,k c o ho,hd⟩
  free:=I.cf.fresh hC
  g8:=fun x c e=>I.g8 x c (ku e)
  pin:=fun p hp=>by
    have xC:p∈X.pn++(pins++more):=hp;rw[←List.append_assoc] at xC;rcases sI.mp xC with hp|hp
    · obtain⟨e,n,ne,nf,d⟩:=I.pin p hp;refine⟨k _ _ e,n,iP (jY (dR e) hC),fun z=>?_,d⟩;rcases gB.mp (I.sL _ z) with q|q
      ·exact ne q
      ·exact nf q
    · obtain⟨e,n,ne,sz,d⟩:=SG p hp;refine⟨e,n,ne,fun z=>?_,d⟩;rcases gB.mp (I.sL _ z) with q|q
      ·exact absurd (q▸I.lt) (Nat.not_lt.mpr sz)
      ·exact I.OI sz q
  cf:=I.cf.kept k
  len:=by show(nQ tgs.length fi σ).length=(CG X.N tgs fi).length;simp[nQ,CG]
theorem Inv.forget{pl:jc}{σ9:St}{H9:Hp}{s9:Shared}(B:fh X tgs fi scope)(I:Inv X pins σ H s)(hex:∀b∈ex,je X pins H b)(I9:Inv (jk X tgs fi scope C ex s H) pl σ9 H9 s9):Inv (jk X tgs fi scope C ex s H) pl (nQ tgs.length fi σ) H9 s9:=by
  obtain⟨m,hn,_⟩:=I9.loc;refine⟨I9.ok,I9.os,I9.bare,I9.base,Em (ex:=ex) B I (fun x c e v ⟨o,ho,hd⟩=>?_) hn,I9.cell,I9.free,I9.g8,I9.pin,I9.cf,?_⟩
  ·have hx:c∉ex:=fun z=>(hex c z).2.2.2.2.1 x c e rfl;obtain⟨sl,q⟩:=I9.base.any ho (I.g8 x c e) hx;exact⟨_,q,hd⟩
  ·show(nQ tgs.length fi σ).length=(CG X.N tgs fi).length;simp[nQ,CG]
theorem Inv.SJ(I:Inv X pins σ H s)(hf:je X pins H a)(h0:X.s₀.heap.objs.size≤a)(new:bU X.prog X.w (upd H a o) s.heap a o):Inv X pins σ (upd H a o) s:=by
  obtain⟨hn,hL,hfs,_,hC,hp⟩:=hf;refine⟨I.ok,I.os,I.bare,⟨I.base.keep,I.base.slot,fun b u e n hx=>?_,I.base.there,fun b xs e=>?_,fun b u xs e=>?_,fun b ps e=>?_⟩,I.loc,I.cell,?_,fun x c e=>?_,fun p xC=>?_,fun b u e=>?_,I.len⟩
  ·rw[ay (iP (jY (dR e) h0))];exact I.base.free b u e n hx
  ·have q:=I.base.mG b xs e;rw[ay (bp q hn)];exact q
  ·have q:=I.base.pB b u xs e;rw[ay (bp q hn)];exact q
  ·obtain⟨m,q⟩:=I.base.pC b ps e;exact⟨m,by rw[ay (bp q hn)];exact q⟩
  ·rw[ay (Ne.symm hL)];exact I.free
  ·rw[ay (hC x c e)];exact I.g8 x c e
  ·obtain⟨e,n,r⟩:=I.pin p xC;exact⟨e,by rw[ay (hp p xC)];exact n,r⟩
  · by_cases hb:b=a
    ·subst hb;rw[aI] at e;cases e;exact new
    ·rw[ay hb] at e;exact(I.cf b u e).mF (fun _ _ _ q=>q) (fun c q=>by rw[ay (bp q hn)];exact q) fun c xs q=>by rw[ay (bp q hn)];exact q
end
def Gf(X:Cx)(ifs:List Expr)(t:TT):Prop :=
  ∀(pins:jc) (s:Shared) (σ:St) (H:Hp) (Q:Bool→Hp→Prop),Inv X pins σ H s→t σ H Q →
   wpAny (model X.prog X.w) X.A (forIn ifs true fun c r=>if r=true then do let ok ←isTrue c X.env (eval c X.env);pure (ForInStep.yield ok) else pure (ForInStep.yield r)) (TP X pins σ Q) X.xe s
def W3:TT:=fun _ H Q=>Q true H
theorem Iw:Gf X [] W3:=fun _ _ _ H _ I h=>wpAny_tests_nil ⟨H,I,h⟩
theorem Iy{c:Expr}{t:TT}(h:PT X c t):Gf X [c] t:=fun pins s σ H Q I hw=>wpAny_tests_one (h pins s σ H Q I hw)
def NV(J:It)(σ0:St)(g:TG)(tt:TT)(te:TE)(W:Nat→Nat→List V→Hp→Prop)(Fin:List V→Hp→Prop):Prop :=
  ∀i m ys H,W i m ys H→(J.stop i H∧ys.length≤sizeLine∧Fin ys H) ∨
   (J.go i H∧ys.length<sizeLine∧∃(N:V→Hp→Prop) (N0:Hp→Prop),(∀y H4,N y H4→∃m',m'<m∧W (i+1) m' (ys++[y]) H4)∧(∀H3,N0 H3→∃m',m'<m∧W (i+1) m' ys H3) ∧
     ∀x H',J.Hw i H x H'→g x σ0 H' fun σ2 H2=>tt σ2 H2 fun b H3=>if b=true then te σ2 H3 N else N0 H3)
section
variable {X:Cx} {tg elt iter:Expr} {ifs:List Expr} {tgs:g7} {fi:List Nat} {scope:Scope} {pos:Pos} {g:TG} {tt:TT} {te:TE}
def lobj(its:dW)(n:Nat):Obj:={ cls:=.type "list",data:=.seq its.toArray n }
theorem AI{H2:Hp}{s2:Shared}{J:It}{it:Addr}{tn:Nat→Heap→Prop}{Fin:List V→Hp→Prop}{RR:Value→Addr→Result→Shared→Prop}(hc:X.calm=true)(B:fh X tgs fi scope)(hg:∀C ex s H,PG (jk X tgs fi scope C ex s H) tg g)(ht:∀C ex s H,Gf (jk X tgs fi scope C ex s H) ifs tt)(he:∀C ex s H,PE (jk X tgs fi scope C ex s H) elt te)(I2:Inv X pins σ H2 s2)(T:Turn X.prog X.w X.K tg J fp it tn)(st:tn 0 s2.heap)(hf:∀b∈fp,je X pins H2 b)(W:Nat→Nat→List V→Hp→Prop)(m0:Nat)(w0:W 0 m0 [] H2)(turn:NV J (nQ tgs.length fi σ) g tt te W Fin)(hRR:∀D C H' ys s' m',Inv X pins σ (upd H' D (.lst ys)) s'→H' D=none→s'.heap.Ns C m'→je X pins (upd H' D (.lst ys)) C→Fin ys H'→RR (.ref D) C (.ok .next) s'):wpAny (model X.prog X.w) X.A (newList []) (fun acc s₃=>wpAny (model X.prog X.w) X.A (newFunctionEnv scope X.env.globals (jM X.env.cells scope.names []) [] X.env.qual none .none (some X.env)) (fun SK s₄=>codeAny (model X.prog X.w) X.A (.compStart (.ListComp elt [⟨tg,iter,ifs,0⟩] scope pos) 0 (.ref it) acc { SK with scope:=relabel scope X.env }) (RR acc SK.locals) s₄) E s₃) E s2:=by
  refine wpAny_newObj_type (wpAny_newFunctionEnv B.cell (by intro y hy;simp at hy) (fun h₁ Iz Gg=>?_) B.kind);dsimp only at Iz Gg⊢;generalize W4:s2.heap.push { cls:=.type "list",dict:=none,data:=.seq ([]:dW).toArray }=hp at Iz Gg⊢;generalize hD:s2.heap.objs.size=D at Iz Gg⊢;have Ve:hp.objs.size=D+1:=by rw[←W4,Heap.size_push,hD]
  generalize hCe:hp.objs.size=C at Iz Gg Ve⊢;have SM:D≠C:=by omega
  have old:∀b o,s2.heap.get? b=some o→h₁.get? b=some o:=fun b o e=>by have hb:b<D:=hD▸dR e;refine Gg.extBut b o (Sy hb Ve) (nE _ ?_);rw[←W4];exact nE _ e
  have hDo:h₁.get? D=some (lobj [] 0):=by refine Gg.extBut D _ SM (nE _ ?_);rw[←W4,←hD];exact lO _ rfl
  have P1:∀b∈fp,b<D:=fun b hb=>by obtain⟨o,e,_⟩:=T.obj 0 _ st b hb;rw[←hD];exact dR e
  have SN:D∉fp:=fun z=>u5 _ (P1 D z);have W5:H2 D=none:=I2.cf.fresh (by rw[hD];exact cN _);have ge0:X.s₀.heap.objs.size≤D:=by rw[←hD];exact I2.sz
  have CH:∀(a:Addr),D≤a→∀x c,X.env.cells.lookup x=some c→c≠a:=fun a ha x c e z=>by obtain⟨v,q⟩:=I2.cell x c e;have:=q.lt;rw[hD] at this;exact Iu this ha z
  have IA:∀(a:Addr),D≤a→∀p∈X.pn++pins,p.1≠a:=fun a ha p xC z=>by have:=dR (I2.pin p xC).1;rw[hD] at this;exact Iu this ha z
  have SQ:∀(a:Addr),D≤a→a≠X.env.locals:=fun a ha z=>by have:=I2.lt;rw[hD] at this;exact Iu this ha z.symm
  have fsD:∀(a:Addr),D≤a→a∉X.fs:=fun a ha=>I2.OI (by rw[hD];exact ha)
  -- the word of the loop
  let Y:Cx:=jk X tgs fi scope C fp s2 H2
  have stF:∀{H:Hp} {pl:jc},(∀b∈fp,H b=none)→(∀p∈pl,p.1∉fp)→∀b∈fp,je Y (pins++pl) H b:=fun {H pl} hn jz b hb=>by
    obtain⟨f0,f1,f2,f3,f4,f5⟩:=hf b hb;refine⟨hn b hb,Sy (P1 b hb) Ve,fun z=>?_,.inl hb,fun x c e=>f4 x c (ku e),fun p xC z=>?_⟩
    · rcases gB.mp (I2.sL b z) with e|e
      ·exact f1 e
      ·exact f2 e
    · have Vc:p∈X.pn++(pins++pl):=xC;rw[←List.append_assoc] at Vc;rcases sI.mp Vc with q|q
      ·exact f5 p q z
      ·exact jz p q (z▸hb)
  have loop:∀s₃:Shared,s₃={ s2 with heap:=h₁,toks:=s2.toks+([]:List (Str×Value)).length } →
      codeAny (model X.prog X.w) X.A (.compLoop (.ListComp elt [⟨tg,iter,ifs,0⟩] scope pos) 0 (.ref it) (.ref D) (compEnvC scope (jM X.env.cells scope.names []) C X.env)) (RR (.ref D) C) s₃:=by
    intro s₃ es₃;subst es₃;have quit:∀{α:Type} {m:Sem α} {Q Q':α→Shared→Prop} {E':kX} {s':Shared},wpAny (model X.prog X.w) X.A m Q (fun _ _=>False) s'→(∀a t,Q a t→Q' a t)→wpAny (model X.prog X.w) X.A m Q' E' s':=fun h k=>j4 h k fun _ _ f=>f.elim;refine codeAny_loop rfl (fun n s'=>∃i H' ys its e,Inv Y (pins++[(D,lobj its e)]) (nQ tgs.length fi σ) H' s'∧Vals ys its∧tn i s'.heap∧(∀b∈fp,H' b=none)∧W i n ys H') ?_ m0 ⟨0,H2,[],[],0,?_,.nil,?_,fun b hb=>(hf b hb).1,w0⟩
    rotate_left
    · refine Inv.block (C:=C) B I2 (by omega) hf (fun b hb=>W0 (P1 b hb) Ve) old Iz fun p xC=>?_;have e:p=(D,lobj [] 0):=by simpa using xC
      subst e;exact⟨hDo,W5,SM,Nat.le_of_eq hD,fun v z=>by cases z⟩
    ·exact T.keep _ _ _ st fun b hb o e=>old b o e
    rintro n s4 ⟨i,H4,ys,its,e4,I4,rv,st4,fr4,w4⟩;refine wpAny_noted ?_;rw[compTurn_list];refine de (wpAny_standAt (de ?_));have jz:∀p∈[(D,lobj its e4)],p.1∉fp:=fun p xC=>by
      have e:p=(D,lobj its e4):=by simpa using xC
      subst e;exact SN
    have f4:=stF (pl:=[(D,lobj its e4)]) fr4 jz;rcases turn i n ys H4 w4 with⟨stop,hz,fin⟩|⟨go,hz,N,N0,hN,hN0,step⟩
    · -- the end
      refine fW (T.done Y rfl rfl rfl hc i _ s4 _ H4 _ I4 f4 st4 stop) fun r s5 ⟨hr,I5⟩=>?_;subst hr;refine cU ?_;have W6:=(I5.pin (D,lobj its e4) (by simp)).1;have SR:H4 D=none:=(I5.pin (D,lobj its e4) (by simp)).2.1;have SV:Inv X pins σ H4 s5:=I2.HL I5.os I5.base I5.cf I5.bare fun b hb=>by obtain⟨f0,f1,f2,f3,f4,f5⟩:=hf b hb;exact⟨f3,f1,f4,f5⟩
      have fpD:je X pins H4 D:=⟨SR,SQ D (cN _),fsD D (cN _),.inr ge0,CH D (cN _),IA D (cN _)⟩
      have It:=SV.SJ (o:=.lst ys) fpD ge0 ⟨hz,its,e4,rv,W6⟩;obtain⟨m',OJ,_⟩:=I5.loc;refine hRR D C H4 ys s5 m' It SR OJ ⟨?_,SQ C (by omega),fsD C (by omega),.inr (by omega),CH C (by omega),IA C (by omega)⟩ fin;rw[ay (Ne.symm SM)];exact I5.free
    · -- a turn
      refine fW (T.item Y rfl rfl rfl hc i _ s4 _ H4 _ I4 f4 st4 go) fun r s5 ⟨u,hr,h5⟩=>?_;subst hr;refine de (fW h5 fun _ s6 ⟨x,H6,I6,r6,y6,W7,fr6⟩=>de ?_);have I6':=I6.pinned (stF (pl:=[(D,lobj its e4)]) fr6 jz) (T.obj _ _ W7);refine quit (hg C fp s2 H2 _ s6 _ H6 x u _ I6' r6 (step x H6 y6)) fun _ s7 ⟨σ7,H7,I7,q7⟩=>de (quit (ht C fp s2 H2 _ s7 σ7 H7 _ I7 q7) fun b s8 ⟨H8,I8,q8⟩=>?_);have again:∀{σ9:St} {H9:Hp} {s9:Shared},Inv Y ((pins++[(D,lobj its e4)])++ve fp s6.heap) σ9 H9 s9→tn (i+1) s9.heap∧(∀b∈fp,H9 b=none):=fun {σ9 H9 s9} I9=>by refine⟨T.keep _ _ _ W7 fun b hb o e=>(I9.pin (b,o) (kR _ (kR _ (mH hb e)))).1,fun b hb=>?_⟩;obtain⟨o,e,d⟩:=T.obj _ _ W7 b hb;exact(I9.pin (b,o) (kR _ (kR _ (mH hb e)))).2.1
      cases b with
      |false=>obtain⟨m',hm,w8⟩:=hN0 _ q8;obtain⟨a1,a2⟩:=again I8;exact cU ⟨rfl,m',hm,i+1,H8,ys,its,e4,Inv.forget B I2 hf I8.lS,rv,a1,a2,w8⟩
      |true =>
       rw[bR rfl] at q8;refine de (de (quit (he C fp s2 H2 _ s8 σ7 H8 _ I8 q8) fun y s9 ⟨yv,H9,I9,r9,q9⟩=>de ?_));obtain⟨m',hm,w9⟩:=hN yv H9 q9;obtain⟨a1,a2⟩:=again I9;obtain⟨p1,p2,p3,p4,p5⟩:=I9.pin (D,lobj its e4) (by simp);have hsz:its.toArray.size≤sizeLine:=by have:=rv.length;simp only[iO];omega
       refine wpAny_list_append_plain (hsz:=hsz) ⟨e4,p1⟩ fun h₅ hl₅ hs₅=>cU (cU ⟨rfl,?_⟩);obtain⟨e5,W6⟩:=hl₅;have W8:h₅.get? D=some (lobj (its++[y]) e5):=by rw[W6];simp[lobj]
       have I10:Inv Y pins (nQ tgs.length fi σ) H9 { s9 with heap:=h₅ }:=by refine Inv.turned (t':=s9.toks) (it:=D) ((Inv.forget B I2 hf I9.lS).lS) (fun b o hb e=>(hs₅.2 b hb).trans e) p2 SM (.inr (Nat.le_of_eq hD)) (fun x c e=>CH D (cN _) x c (ku e)) (IA D (cN _))
       refine⟨m',hm,i+1,H9,ys++[yv],its++[y],e5,I10.yR fun p xC=>?_,Vals.append rv (.cons r9 .nil),T.keep _ _ _ a1 fun b hb o e=>(hs₅.2 b (fun z=>SN (z▸hb))).trans e,a2,w9⟩;rcases sI.mp xC with q|q
       ·exact I10.pin p (kR _ q)
       · have e:p=(D,lobj (its++[y]) e5):=by simpa using q
         subst e;exact⟨W8,p2,SM,p4,fun v z=>by cases z⟩
  exact codeAny_compStart_list (loop _ rfl) (T.self _ 0 _ _ _ (T.keep _ _ _ st fun b hb o e=>old b o e) (loop _ rfl))
def IB(wi:TI)(nt:Nat)(fi:List Nat)(g:TG)(tt:TT)(te:TE):TE:=fun σ H Q=>wi σ H fun J H1=>∃W:Nat→Nat→List V→Hp→Prop,(∃m,W 0 m [] H1) ∧
  NV J (nQ nt fi σ) g tt te W fun ys H2=>∀p,H2 p=none→Q (.ref p) (upd H2 p (.lst ys))
theorem L0{wi:TI}(hc:X.calm=true)(B:fh X tgs fi scope)(hi:PI X tg iter wi)(hg:∀C ex s H,PG (jk X tgs fi scope C ex s H) tg g)(ht:∀C ex s H,Gf (jk X tgs fi scope C ex s H) ifs tt)(he:∀C ex s H,PE (jk X tgs fi scope C ex s H) elt te)(hs:∀x,foldedSetIterable iter X.env x=pure x:=by intro _;rfl):PE X (.ListComp elt [⟨tg,iter,ifs,0⟩] scope pos) (IB wi tgs.length fi g tt te):=by
  intro pins s σ H Q I h;rw[eval_ListComp];refine wpAny_comprehension_free (use:=none) rfl hs (B.SD I.ok) B.kind B.names (fW (hi pins s σ H _ I h) fun xv s1 h1=>fW h1 fun U9 s2 h2=>?_);obtain⟨it,fp,tn,J,H2,e,I2,T,R3,f2,W,⟨m0,w0⟩,turn⟩:=h2;subst e;refine AI (RR:=fun acc C=>compPost (model X.prog X.w) X.A X.xe none (EP X pins σ Q) acc C) hc B hg ht he I2 T R3 f2 W m0 w0 turn ?_;intro D C H' ys s' m' I' hD hn hC fin;obtain⟨c0,c1,c2,c3,c4,c5⟩:=hC;exact⟨m',hn,fun h' sb=>⟨.ref D,_,I'.turned (t':=s'.toks) (fun b o hb e=>(sb.2 b hb).trans e) c0 c1 c3 c4 c5,rfl,fin D hD⟩⟩
theorem vn{wi:TI}{AJ:Pos}(hc:X.calm=true)(hN:X.N.Nodup)(hx:X.N[i]?=some x)(hl:X.env.scope.names.lookup x=some .local)(B:fh X tgs fi scope)(hi:PI X tg iter wi)(hg:∀C ex s H,PG (jk X tgs fi scope C ex s H) tg g)(ht:∀C ex s H,Gf (jk X tgs fi scope C ex s H) ifs tt)(he:∀C ex s H,PE (jk X tgs fi scope C ex s H) elt te)(IC:swapsWith (.ListComp elt [⟨tg,iter,ifs,0⟩] scope pos) (some (.Name x pos')) AJ.line X.env=pure true)(hs:∀x,foldedSetIterable iter X.env x=pure x:=by intro _;rfl):PS X (.Assign [.Name x pos'] (.ListComp elt [⟨tg,iter,ifs,0⟩] scope pos) AJ) (FR (IB wi tgs.length fi g tt te) (x4 i)):=by
  intro pins s σ H D I h;rw[exec_Assign_Name_used _ _ _ _ IC];refine de (wpAny_standAt (de ?_));show wpAny _ _ (do let _ ←comprehension (.ListComp elt [⟨tg,iter,ifs,0⟩] scope pos) scope X.env _ (newList []) false (eval iter X.env) (some (assign (.Name x pos') X.env))) _ _ s;refine de (j4 (wpAny_comprehension_free (use:=some (assign (.Name x pos') X.env)) (Q:=fun _ s'=>SP X pins D .next s') rfl hs (B.SD I.ok) B.kind B.names
    (fW (hi pins s σ H _ I h) fun xv s1 h1=>fW h1 fun U9 s2 h2=>?_)) (fun _ s' hq=>cU (cU hq)) fun _ _ e=>e)
  obtain⟨it,fp,tn,J,H2,e,I2,T,R3,f2,W,⟨m0,w0⟩,turn⟩:=h2;subst e;refine AI (RR:=fun acc C=>compPost (model X.prog X.w) X.A X.xe (some (assign (.Name x pos') X.env)) (fun _ s'=>SP X pins D .next s') acc C) hc B hg ht he I2 T R3 f2 W m0 w0 turn ?_;intro a C H' ys s' m' I' hD hn hC fin;obtain⟨c0,c1,c2,c3,c4,c5⟩:=hC;refine wpAny_assign_Name (xY (v:=.ref a) I' hN hx (.inl hl) rfl (fun uy I'' ⟨b,sb,hb⟩=>?_) (.inr hl));have hCb:C≠b:=by
    rcases hb with z|z
    ·rw[z];exact c1
    ·exact fun q=>c4 x b z q.symm
  exact⟨m',hn.sameBut sb hCb,fun h' sb'=>⟨_,_,I''.turned (t':=uy.toks) (fun b o hb e=>(sb'.2 b hb).trans e) c0 c1 c3 c4 c5,fin a hD⟩⟩
end
theorem vo:bootBuiltins "tuple"=some (.type "tuple"):=by decide +kernel
theorem En:bootBuiltins "list"=some (.type "list"):=by decide +kernel
theorem P2:bootBuiltins "int"=some (.type "int"):=by decide +kernel
theorem L1:bootBuiltins "bool"=some (.type "bool"):=by decide +kernel
theorem P4:bootBuiltins "str"=some (.type "str"):=by decide +kernel
theorem lA:bootBuiltins "len"=some (.builtin "len"):=by decide +kernel
theorem IE:bootBuiltins "sum"=some (.builtin "sum"):=by decide +kernel
theorem oN:bootBuiltins "sorted"=some (.builtin "sorted"):=by decide +kernel
theorem jA:bootBuiltins "isinstance"=some (.builtin "isinstance"):=by decide +kernel
theorem in1_units:A.in1.units=A.units+1:=rfl
theorem all_eq{ms:bD}:((List.range (min ns.length ms.length)).all (fun j=>decide (ns[j]?=ms[j]?))&&(ns.length==ms.length))=decide (ns=ms):=by
  rw[Bool.eq_iff_iff];simp only[qF,List.all_eq_true,xt,decide_eq_true_eq,qH];constructor
  · rintro⟨h,hl⟩;refine List.ext_getElem? fun i=>?_;by_cases hi:i<min ns.length ms.length
    ·exact h i hi
    ·rw[List.getElem?_eq_none (by omega),List.getElem?_eq_none (by omega)]
  ·rintro rfl;exact⟨fun _ _=>rfl,rfl⟩
theorem Gh{p q:Addr}{vp eX:dW}{ms:bD}(h1:IsTup s.heap p vp.toArray)(h2:IsTup s.heap q eX.toArray)(r1:Vals (ns.map V.int) vp)(r2:Vals (ms.map V.int) eX)(hu:A.units<cLine):SeqAt.EqAt A s (.ref p) (.ref q) (decide (ns=ms)):=by
  by_cases e:p=q
  · subst e;obtain⟨o,e1,_,n,d1⟩:=h1;obtain⟨o',e2,_,n',d2⟩:=h2;rw[e1] at e2;cases e2;rw[d1] at d2;injection d2 with d3 _;have e3:vp=eX:=by simpa using hJ Array.toList d3
    subst e3;have e4:=r1.inj r2;have e5:ns=ms:=by have:=hJ (List.map fun v=>match v with|V.int i=>i|_=>0) e4;simpa[ko,Function.comp_def] using this
    rw[km e5];exact SeqAt.EqAt.same _
  · have l1:vp.length=ns.length:=by have:=r1.length;simpa using this.symm
    have l2:eX.length=ms.length:=by have:=r2.length;simpa using this.symm
    have key:=SeqAt.RcAt.tuples (A:=A) (e:=fun j=>decide (ns[j]?=ms[j]?)) (show s.heap.IsTuple p vp.toArray from h1) (show s.heap.IsTuple q eX.toArray from h2) hu (fun j q1 q2=>by
      have q1':j<ns.length:=by simpa[l1] using q1
      have q2':j<ms.length:=by simpa[l2] using q2
      obtain⟨u,Vf,ru⟩:=r1.get (i:=j) (x:=.int ns[j]) (by simp[q1']);obtain⟨v,hv1,rv⟩:=r2.get (i:=j) (x:=.int ms[j]) (by simp[q2']);obtain⟨t,rfl⟩:=ru;obtain⟨t',rfl⟩:=rv;have a1:vp.toArray[j]=.int ns[j] t:=by
        have:vp.toArray[j]?=some (.int ns[j] t):=by simpa using Vf
        rw[Array.getElem?_eq_getElem q1] at this;exact kj this
      have a2:eX.toArray[j]=.int ms[j] t':=by
        have:eX.toArray[j]?=some (.int ms[j] t'):=by simpa using hv1
        rw[Array.getElem?_eq_getElem q2] at this;exact kj this
      rw[a1,a2];have e:decide (ns[j]?=ms[j]?)=(ns[j]==ms[j]):=by rw[nH q1',nH q2',Bool.eq_iff_iff];simp
      rw[e];exact SeqAt.EqAt.int_int _ _ _ _)
    rw[show vp.toArray.size=ns.length by simpa using l1,show eX.toArray.size=ms.length by simpa using l2,all_eq] at key;exact SeqAt.EqAt.of_refs e key
section
variable {X:Cx}
theorem mJ:∀ns:bD,HT.lexLt ns ns=false
  |[]=>rfl
  |x::r=>by rw[HT.kr,bR rfl];exact mJ r
theorem L3{i:Int}{p:Addr}(I:Inv X pins σ H s)(h:j9 X.K H a [.int i,.ref p]):∃t,IsTup s.heap a [Value.int i t,Value.ref p].toArray:=by obtain⟨its,rv,ht,_⟩:=I.tuple h;obtain⟨u,v,rfl,ru,rv'⟩:=vals2 rv;obtain⟨t,rfl⟩:=ru;cases rv';exact⟨t,ht⟩
theorem AK:lT X (.builtin "isinstance") (fun xs H Q=>∃x T t b,xs=[x,.ty T]∧pD X.K H x t∧PySem.W.kitOne X.K t (.type T)=some b∧Q (.bl b) H):=by intro pins s σ H xs us Q I r h;obtain⟨x,T,t,b,rfl,ty,e,q⟩:=h;obtain⟨u,v,rfl,ru,rv⟩:=vals2 r;cases rv;exact x5 I ru ty e fun tk=>⟨.bl b,H,I.tok tk,rfl,q⟩
end
end L2
namespace L4
open PySem PySem.W PyProof.Rows
variable {α β:Type}
def fj(lt:Nat→Nat→Bool):KasT α→α
  |.ret a=>a
  |.ask i j k=>fj lt (k (lt i j))
theorem ka(lt:Nat→Nat→Bool)(f:α→KasT β):∀t:KasT α,fj lt (t.bind f)=fj lt (f (fj lt t))
  |.ret _=>rfl
  |.ask i j k=>ka lt f (k (lt i j))
def lV(n:Nat)(P:α→Prop):KasT α→Prop
  |.ret a=>P a
  |.ask i j k=>i<n∧j<n∧∀b,lV n P (k b)
theorem lV.bind{P:α→Prop}{R:β→Prop}{f:α→KasT β}:∀{t:KasT α},lV n P t→(∀a,P a→lV n R (f a))→lV n R (t.bind f)
  |.ret a,h,hf=>hf a h
  |.ask _ _ _,h,hf=>⟨h.1,h.2.1,fun b=>lV.bind (h.2.2 b) hf⟩
theorem IG{cmp:Nat→Nat→(Bool→Shared→Prop)→Shared→Prop}{S:Shared→Prop}{lt:Nat→Nat→Bool}{n:Nat}{P:α→Prop}{Q:α→Shared→Prop}(L5:∀i j C s,i<n→j<n→S s→(∀s',S s'→C (lt i j) s')→cmp i j C s):∀(t:KasT α) (s:Shared),lV n P t→S s→(∀s',S s'→P (fj lt t)→Q (fj lt t) s')→t.kasWp cmp Q s
  |.ret a,s,h,hs,hq=>hq s hs h
  |.ask i j k,s,h,hs,hq=>L5 i j _ s h.1 h.2.1 hs fun s' II=>IG L5 (k (lt i j)) s' (h.2.2 _) II hq
structure bE (n:Nat) (p:Array Nat):Prop where
  perm:p.Perm (List.range n).toArray
theorem bE.size(h:bE n p):p.size=n:=by rw[h.perm.size_eq];simp
theorem bE.lt(h:bE n p)(hn:0<n)(x:Nat):p.getD x 0<n:=by
  by_cases hx:x<p.size
  · have e:p.getD x 0=p[x]:=by simp[Array.getD,hx]
    rw[e];have hm:p[x]∈(List.range n):=by have:=(Array.perm_iff_toList_perm.mp h.perm).mem_iff (a:=p[x]);simp only[Array.mem_toList_iff] at this;exact this.mp (by simp)
    exact xt.mp hm
  · have e:p.getD x 0=0:=by simp[Array.getD,hx]
    rw[e];exact hn
theorem bE.inj(h:bE n p){j:Nat}(hi:i<n)(hj:j<n)(e:p.getD i 0=p.getD j 0):i=j:=by
  have nd:p.toList.Nodup:=(Array.perm_iff_toList_perm.mp h.perm).nodup_iff.mpr (by simpa using List.nodup_range);have P0:i<p.toList.length:=by simpa[h.size] using hi
  have Rr:j<p.toList.length:=by simpa[h.size] using hj
  have P5:i<p.size:=by simpa using P0
  have W9:j<p.size:=by simpa using Rr
  simp only[Array.getD,P5,W9,dif_pos] at e;exact(List.getElem_inj (h₀:=P0) (h₁:=Rr) nd).mp (by rw[Array.getElem_toList,Array.getElem_toList];exact e)
theorem bE.rev{j:Nat}(h:bE n p):bE n (kas_rev p i j):=⟨(mirror_perm _ _ _ _).trans h.perm⟩
theorem bE.bub{j:Nat}(h:bE n p):bE n (bubble p i j):=⟨(bubble_perm _ _ _).trans h.perm⟩
theorem bE.id(n:Nat):bE n (List.toArray (List.range n)):=⟨Array.Perm.refl _⟩
theorem qP{q:Array Nat}{j:Nat}(h:p[i]?=q[j]?):p.getD i 0=q.getD j 0:=by rw[Array.getD_eq_getD_getElem?,Array.getD_eq_getD_getElem?,h]
theorem Eo{j:Nat}(hj:j≤p.size)(k:Nat):(kas_rev p i j).getD k 0=if i≤k∧k<j then p.getD (i+j-1-k) 0 else p.getD k 0:=by
  have e:=getElem?_mirror_all (xs:=p) (i:=i) hj k;unfold kas_rev;by_cases h:i≤k∧k<j
  ·rw[bR h] at e⊢;exact qP e
  ·rw[bS h] at e⊢;exact qP e
theorem Ep{src d:Nat}(hs:src<p.size)(hd:d≤src)(k:Nat):(bubble p src d).getD k 0=if k=src-d then p.getD src 0 else if src-d<k∧k≤src then p.getD (k-1) 0 else p.getD k 0:=by
  have e:=getElem?_bubble hs d hd k;by_cases h1:k=src-d
  ·rw[bR h1] at e⊢;exact qP e
  · rw[bS h1] at e⊢;by_cases h2:src-d<k∧k≤src
    ·rw[bR h2] at e⊢;exact qP e
    ·rw[bS h2] at e⊢;exact qP e
structure jN (n:Nat) (lt:Nat→Nat→Bool):Prop where
  tr:∀i j k,i<n→j<n→k<n→lt i j=true→lt j k=true→lt i k=true
  SW:∀i j,i<n→j<n→i≠j→lt i j=false→lt j i=true
def Up(lt:Nat→Nat→Bool)(p:Array Nat)(k:Nat):Prop:=∀i j,i<j→j<k→lt (p.getD i 0) (p.getD j 0)=true
def Down(lt:Nat→Nat→Bool)(p:Array Nat)(k:Nat):Prop:=∀i j,i<j→j<k→lt (p.getD j 0) (p.getD i 0)=true
section
variable {n:Nat} {lt:Nat→Nat→Bool} {p:Array Nat}
theorem Up.snoc(S:jN n lt)(P:bE n p)(hk:1≤k)(hkn:k<n)(h:Up lt p k)(e:lt (p.getD (k-1) 0) (p.getD k 0)=true):Up lt p (k+1):=fun i j vq hj=>by
  have l:=P.lt (by omega:0<n);by_cases Lh:j<k
  ·exact h i j vq Lh
  · have ej:j=k:=by omega
    subst ej;by_cases hi:i=j-1
    ·rw[hi];exact e
    ·exact S.tr _ _ _ (l _) (l _) (l _) (h i (j-1) (by omega) (by omega)) e
theorem Down.snoc(S:jN n lt)(P:bE n p)(hk:1≤k)(hkn:k<n)(h:Down lt p k)(e:lt (p.getD k 0) (p.getD (k-1) 0)=true):Down lt p (k+1):=fun i j vq hj=>by
  have l:=P.lt (by omega:0<n);by_cases Lh:j<k
  ·exact h i j vq Lh
  · have ej:j=k:=by omega
    subst ej;by_cases hi:i=j-1
    ·rw[hi];exact e
    ·exact S.tr _ _ _ (l _) (l _) (l _) e (h i (j-1) (by omega) (by omega))
theorem CJ(S:jN n lt)(P:bE n p):∀(f k:Nat),1≤k→k+f=n→Up lt p k→k≤fj lt (kas_asc p f k)∧fj lt (kas_asc p f k)≤n∧Up lt p (fj lt (kas_asc p f k))∧(fj lt (kas_asc p f k)<n→lt (p.getD (fj lt (kas_asc p f k)) 0) (p.getD (fj lt (kas_asc p f k)-1) 0)=true)
  |0,k,h1,h2,h=>⟨cN _,by show k≤n;omega,h,fun z=>absurd (show k<n from z) (by omega)⟩
  |f+1,k,h1,h2,h=>by
   show k≤fj lt (if lt (p.getD k 0) (p.getD (k-1) 0)=true then _ else _)∧_;by_cases c:lt (p.getD k 0) (p.getD (k-1) 0)=true
   · simp only[kas_asc,fj,c,iq];refine⟨cN _,by omega,h,fun _=>?_⟩
     first|exact c|trivial
   · have c':lt (p.getD k 0) (p.getD (k-1) 0)=false:=by simpa using c
     have l:=P.lt (by omega:0<n);have e:lt (p.getD (k-1) 0) (p.getD k 0)=true:=S.SW _ _ (l _) (l _) (fun z=>by have:=P.inj (by omega) (by omega) z;omega) c';have ih:=CJ S P f (k+1) (by omega) (by omega) (h.snoc S P h1 (by omega) e);simp only[kas_asc,fj,c',xq,mE];exact⟨by omega,ih.2⟩
theorem Er(S:jN n lt)(P:bE n p):∀(f k:Nat),1≤k→k+f=n→Down lt p k→∃m,fj lt (kas_desc f p k 0)=(p,m,0)∧k≤m∧m≤n∧Down lt p m
  |0,k,h1,h2,h=>⟨k,rfl,cN _,by omega,h⟩
  |f+1,k,h1,h2,h=>by
   have l:=P.lt (by omega:0<n);by_cases c:lt (p.getD k 0) (p.getD (k-1) 0)=true
   ·obtain⟨m,e,h3,h4,h5⟩:=Er S P f (k+1) (by omega) (by omega) (h.snoc S P h1 (by omega) c);refine⟨m,?_,by omega,h4,h5⟩;simp only[kas_desc,fj,c,iq,u5,gt_iff_lt,mE];exact e
   · have c':lt (p.getD k 0) (p.getD (k-1) 0)=false:=by simpa using c
     have e:lt (p.getD (k-1) 0) (p.getD k 0)=true:=S.SW _ _ (l _) (l _) (fun z=>by have:=P.inj (by omega) (by omega) z;omega) c';refine⟨k,?_,cN _,by omega,h⟩;simp only[kas_desc,fj,c',xq,mE,e,iq]
theorem Down.rev(P:bE n p)(hk:k≤n)(h:Down lt p k):Up lt (kas_rev p 0 k) k:=fun i j vq hj=>by
  have hz:k≤p.size:=by rw[P.size];exact hk
  rw[Eo hz,Eo hz,bR (by omega),bR (by omega)];exact h _ _ (by omega) (by omega)
theorem IJ(S:jN n lt)(P:bE n p)(h2:2≤n):∃m q,fj lt (kas_count n p)=(m,q)∧1≤m∧m≤n∧bE n q∧Up lt q m:=by
  have l:=P.lt (by omega:0<n);have a:=CJ S P (n-1) 1 (cN _) (by omega) (fun i j vq hj=>by omega);unfold kas_count;rw[ka];generalize hm:fj lt (kas_asc p (n-1) 1)=m at a;obtain⟨a1,a2,a3,a4⟩:=a;by_cases hn:m=n
  ·subst hn;refine⟨m,p,?_,by omega,cN _,P,a3⟩;simp[fj]
  · have hb:(m==n)=false:=by simpa using hn
    simp only[hb,xq,mE];by_cases h1:m>1
    ·have e:=a3 0 (m-1) (by omega) (by omega);refine⟨m,p,?_,by omega,a2,P,a3⟩;simp only[h1,iq,fj,e]
    · have em:m=1:=by omega
      subst em;simp only[gt_iff_lt,u5,mE];have d0:Down lt p 2:=fun i j vq hj=>by
        have ei:i=0:=by omega
        have ej:j=1:=by omega
        subst ei ej;exact a4 (by omega)
      obtain⟨m,e,h3,h4,h5⟩:=Er S P (n-2) 2 (by omega) (by omega) d0;unfold kas_descPart;rw[ka];have e':fj lt (kas_desc (n-(1+1)) p (1+1) 0)=(p,m,0):=e;rw[e'];simp only[gt_iff_lt,u5,mE];unfold kas_tail3;rw[ka];have P':bE n (kas_rev p 0 m):=P.rev;have b:=CJ S P' (n-m) m (by omega) (by omega) (h5.rev P h4);exact⟨_,_,rfl,by show 1≤fj lt (kas_asc (kas_rev p 0 m) (n-m) m);omega,b.2.1,P',b.2.2.1⟩
theorem vt(S:jN n lt)(P:bE n p){k:Nat}(hk:k<n)(hU:Up lt p k):∀(f a b:Nat),a≤b→b≤k→b-a≤f→(∀i,i<a→lt (p.getD i 0) (p.getD k 0)=true)→(∀i,b≤i→i<k→lt (p.getD k 0) (p.getD i 0)=true)→fj lt (kas_place p k f a b)≤k∧(∀i,i<fj lt (kas_place p k f a b)→lt (p.getD i 0) (p.getD k 0)=true)∧(∀i,fj lt (kas_place p k f a b)≤i→i<k→lt (p.getD k 0) (p.getD i 0)=true)
  |0,a,b,xD,Vg,hf,hl,hh=>by
   have e:a=b:=by omega
   subst e;exact⟨Vg,hl,hh⟩
  |f+1,a,b,xD,Vg,hf,hl,hh=>by
   have l:=P.lt (by omega:0<n);by_cases NW:a≥b
   · have e:a=b:=by omega
     subst e;simp only[kas_place,ge_iff_le,cN,iq,fj];exact⟨Vg,hl,hh⟩
   · have nF:a<b:=by omega
     by_cases c:lt (p.getD k 0) (p.getD ((a+b) / 2) 0)=true
     · have ih:=vt S P hk hU f a ((a+b) / 2) (by omega) (by omega) (by omega) hl (fun i h1 h2=>by
         by_cases e:i=(a+b) / 2
         ·rw[e];exact c
         ·exact S.tr _ _ _ (l _) (l _) (l _) c (hU _ _ (by omega) h2))
       simp only[kas_place,NW,mE,fj,c,iq];exact ih
     · have c':lt (p.getD k 0) (p.getD ((a+b) / 2) 0)=false:=by simpa using c
       have e:lt (p.getD ((a+b) / 2) 0) (p.getD k 0)=true:=S.SW _ _ (l _) (l _) (fun z=>by have:=P.inj (by omega) (by omega) z;omega) c';have ih:=vt S P hk hU f ((a+b) / 2+1) b (by omega) Vg (by omega) (fun i h1=>by
         by_cases e':i=(a+b) / 2
         ·rw[e'];exact e
         ·exact S.tr _ _ _ (l _) (l _) (l _) (hU i ((a+b) / 2) (by omega) (by omega)) e) hh
       simp only[kas_place,NW,mE,fj,c',xq];exact ih
theorem IK(S:jN n lt):∀(f:Nat) (p:Array Nat) (k:Nat),bE n p→k+f=n→Up lt p k→bE n (fj lt (kas_bin f p k))∧Up lt (fj lt (kas_bin f p k)) n
  |0,p,k,P,e,h=>by
   have ek:k=n:=by omega
   subst ek;exact⟨P,h⟩
  |f+1,p,k,P,e,h=>by
   have hk:k<n:=by omega
   obtain⟨h1,h2,h3⟩:=vt S P hk h k 0 k (by omega) (cN _) (by omega) (fun i hi=>by omega) (fun i h1 h2=>by omega);show bE n (fj lt ((kas_place p k k 0 k).bind _))∧Up lt (fj lt ((kas_place p k k 0 k).bind _)) n;rw[ka];generalize fj lt (kas_place p k k 0 k)=l at h1 h2 h3;refine IK S f (bubble p k (k-l)) (k+1) P.bub (by omega) fun i j vq hj=>?_;have hs:k<p.size:=by rw[P.size];exact hk
   rw[Ep hs (by omega),Ep hs (by omega),show k-(k-l)=l by omega];by_cases c1:i=l
   ·rw[bR c1,bS (show ¬ j=l by omega),bR (show l<j∧j≤k by omega)];exact h3 _ (by omega) (by omega)
   · rw[bS c1];by_cases c2:l<i∧i≤k
     ·rw[bR c2,bS (show ¬ j=l by omega),bR (show l<j∧j≤k by omega)];exact h _ _ (by omega) (by omega)
     · rw[bS c2];by_cases c3:j=l
       ·rw[bR c3];exact h2 _ (by omega)
       · rw[bS c3];by_cases c4:l<j∧j≤k
         ·rw[bR c4];exact h _ _ (by omega) (by omega)
         ·rw[bS c4];exact h _ _ (by omega) (by omega)
theorem Es(S:jN n lt)(h2:2≤n):bE n (fj lt (kas_sort n))∧Up lt (fj lt (kas_sort n)) n:=by
  obtain⟨m,q,e,h1,h3,P,U⟩:=IJ S (bE.id n) h2;unfold kas_sort;rw[ka,e];by_cases hm:m<n
  · simp only[hm,iq];have em:max m 1=m:=by omega
    rw[em];exact IK S (n-m) q m P (by omega) U
  · simp only[hm,mE,fj];have em:m=n:=by omega
    subst em;exact⟨P,U⟩
end
section
variable {n:Nat}
theorem y9{p:Array Nat}(hn:0<n)(P:bE n p):∀(f k:Nat),lV n (fun _=>True) (kas_asc p f k)
  |0,_=>True.intro
  |f+1,k=>⟨P.lt hn _,P.lt hn _,fun b=>by
   cases b with
   |true=>exact True.intro
   |false=>exact y9 hn P f (k+1)⟩
theorem qQ(hn:0<n):∀(f:Nat) (p:Array Nat) (k q:Nat),bE n p→lV n (fun r=>bE n r.1) (kas_desc f p k q)
  |0,_,_,_,P=>P
  |f+1,p,k,q,P=>⟨P.lt hn _,P.lt hn _,fun b=>by
   cases b with
   |true =>
    simp only[iq];split
    ·exact qQ hn f _ _ _ P.rev
    ·exact qQ hn f _ _ _ P
   |false =>
    simp only[xq,mE];refine⟨P.lt hn _,P.lt hn _,fun d=>?_⟩;cases d with
    |true=>exact P
    |false=>exact qQ hn f _ _ _ P⟩
theorem AO(hn:0<n)(P:bE n p)(k m:Nat):lV n (fun r=>bE n r.2) (kas_tail3 k m p):=by unfold kas_tail3;exact lV.bind (y9 hn (P.rev (i:=0) (j:=k)) _ _) fun a _=>(P.rev (i:=0) (j:=k))
theorem AQ(hn:0<n)(P:bE n p)(k m:Nat):lV n (fun r=>bE n r.2) (kas_descPart k m p):=by
  unfold kas_descPart;refine lV.bind (qQ hn _ _ _ _ P) fun r hr=>?_;split
  ·exact AO hn hr.rev _ _
  ·exact AO hn hr _ _
theorem Gi(hn:0<n)(P:bE n p)(m:Nat):lV n (fun r=>bE n r.2) (kas_count m p):=by
  unfold kas_count;refine lV.bind (y9 hn P _ _) fun r _=>?_;split
  ·exact P
  · split
    · refine⟨P.lt hn _,P.lt hn _,fun b=>?_⟩;cases b with
      |true=>exact P
      |false=>exact AQ hn P.rev _ _
    ·exact AQ hn P _ _
theorem sO{p:Array Nat}(hn:0<n)(P:bE n p)(k:Nat):∀(f a b:Nat),lV n (fun _=>True) (kas_place p k f a b)
  |0,_,_=>True.intro
  |f+1,a,b=>by
   unfold kas_place;split
   ·exact True.intro
   · refine⟨P.lt hn _,P.lt hn _,fun c=>?_⟩;cases c with
     |true=>exact sO hn P k f _ _
     |false=>exact sO hn P k f _ _
theorem Et(hn:0<n):∀(f:Nat) (p:Array Nat) (k:Nat),bE n p→lV n (bE n) (kas_bin f p k)
  |0,_,_,P=>P
  |f+1,p,k,P=>lV.bind (sO hn P k _ _ _) fun l _=>Et hn f _ _ P.bub
theorem AR(hn:0<n):lV n (bE n) (kas_sort n):=by
  unfold kas_sort;refine lV.bind (Gi hn (bE.id n) n) fun r hr=>?_;split
  ·exact Et hn _ _ _ hr
  ·exact hr
end
end L4
namespace L2
open PySem
def IL(h:Heap)(d:Addr)(es:Array DictEntry)(ep:Nat):Prop:=∃o,h.get? d=some o∧o.ExactDict∧o.data=.dict es ep
section
variable {prog:Program} {w:World} {A:Around} {E:kX} {s:Shared}
theorem uA{d:Addr}{es:Array DictEntry}{ep:Nat}(hd:(d==sysModules)=false)(hm:IL s.heap d es ep)(hQ:Q (.ref s.heap.objs.size) { s with heap:=s.heap.push { cls:=.type "dict_keyiterator",data:=.fields #[.ref d,.int 0 0,.int es.size 0,.int ep 0] } }):wpAny (model prog w) A (pyIter (.ref d)) Q E s:=by
  have P6:=hm;obtain⟨o,ho,hc,hq⟩:=P6;have hT:s.TypeIs (.ref d) "dict":=⟨o,ho,hc.1⟩
  have mF:∀{R:Unit→Shared→Prop} {F:kX},R () s→wpAny (model prog w) A.in1 (Builtin.Dict.showsAll d) R F s:=fun r=>by unfold Builtin.Dict.showsAll;rw[hd];exact cU r
  refine wpAny_pyIter_slot hT F.slot_dict_iter (wpAny_call_entry F.slot_dict_iter hT F.entry_dict_iter ?_ (F.args_dict_iter_1 _));refine de (de (wpAny_notOrdered_dict hT (cU ?_)));refine de (cU (de (mF (de (wpAny_dictEntries ho hq (de (wpAny_dictEpoch ho hq ?_)))))));exact de (wpAny_newObj_type (cU ⟨_,rfl,_,_,⟨_,lO _ rfl,rfl⟩,F.slot_dict_keyiterator_next.lookup,by simpa[rawInt] using hQ⟩))
theorem nR{it d:Addr}{ep:Nat}{es:Array DictEntry}{Q:fV→Shared→Prop}(hit:s.heap.IsKeyIter it d i es.size ep)(hm:IL s.heap d es ep)(nF:i<es.size)(hQ:∀h',h'.IsKeyIter it d (i+1) es.size ep→Heap.SameBut it s.heap h'→Q (some es[i].key) { s with heap:=h' }):wpAny (model prog w) A (pyNext (.ref it)) Q E s:=by
  have hT:=hit.typeIs;have Xa:=hit;have P6:=hm;obtain⟨o,ho,hc,hd⟩:=Xa;obtain⟨od,SX,ji,SY⟩:=P6;refine de (wpAny_attempt (wpAny_callSpecial?_slot hT F.slot_dict_keyiterator_next (wpAny_call_entry F.slot_dict_keyiterator_next hT F.entry_dict_keyiterator_next ?_ (F.args_dict_keyiterator_next_1 _))));unfold Builtin.«dict_keyiterator.__next__»
  wp_walk using wpAny_typeNameOfWhole_keyiter hT,wpAny_fieldsOf ho hd,wpAny_dictEntries SX SY,wpAny_dictEpoch SX SY
  rw[show(if (i:Int)<0 then none else es[(i:Int).toNat]?)=some es[i] by rw[bS (by omega),Int.toNat_natCast,Array.getElem?_eq_getElem nF]];refine de (de (wpAny_typeNameOfWhole_keyiter hT (cU (de (wpAny_isOneOf_keyiter hT (de ?_))))));have up:∀(f:Obj→Obj),f=Obj.mapFields (·.setIfInBounds 1 (rawInt ((i:Int)+1)))→(s.heap.update it f).IsKeyIter it d (i+1) es.size ep:=fun f e=>by subst e;exact⟨_,Heap.get?_update_self _ ho (Obj.isFreed_of_fields (Obj.data_mapFields hd _)),(Obj.cls_mapFields ..).trans hc,(Obj.data_mapFields hd _).trans (by simp[rawInt])⟩
  refine wpAny_setField (i:=1) (x:=rawInt ((i:Int)+1)) ho hd (by simp) (de (uw ?_));have hT1:=(up _ rfl).typeIs (s:={ s with heap:=s.heap.update it (Obj.mapFields (·.setIfInBounds 1 (rawInt ((i:Int)+1)))) });exact de (wpAny_isOneOf_keyiter hT1 (cU (cU ⟨_,rfl,cU (hQ _ (up _ rfl) (Heap.SameBut.update ..))⟩)))
theorem pG{it d:Addr}{ep:Nat}{es:Array DictEntry}{Q:fV→Shared→Prop}(hh:A.handled=none)(hit:s.heap.IsKeyIter it d i es.size ep)(hm:IL s.heap d es ep)(hx:es.size≤i)(hQ:∀h',Heap.ExtBut it s.heap h'→Q none { s with heap:=h' }):wpAny (model prog w) A (pyNext (.ref it)) Q E s:=by
  have hT:=hit.typeIs;have P6:=hm;obtain⟨o,ho,hc,hd⟩:=hit;obtain⟨od,SX,ji,SY⟩:=P6;refine de (wpAny_attempt (wpAny_callSpecial?_slot hT F.slot_dict_keyiterator_next (wpAny_call_entry F.slot_dict_keyiterator_next hT F.entry_dict_keyiterator_next ?_ (F.args_dict_keyiterator_next_1 _))));unfold Builtin.«dict_keyiterator.__next__»
  wp_walk using wpAny_typeNameOfWhole_keyiter hT,wpAny_fieldsOf ho hd,wpAny_dictEntries SX SY,wpAny_dictEpoch SX SY
  rw[show(if (i:Int)<0 then none else es[(i:Int).toNat]?)=none by rw[bS (by omega),Int.toNat_natCast,Array.getElem?_eq_none hx]];refine de (de (wpAny_typeNameOfWhole_keyiter hT (cU (de (wpAny_setField (i:=0) (x:=.none) ho hd (by simp) ?_)))));have s1:=Heap.SameBut.update s.heap it (Obj.mapFields (·.setIfInBounds 0 Value.none))
  wp_walk
  unfold raiseNew;have hh1:A.in1.handled=none:=by simpa using hh
  refine de (wpAny_handled ?_);rw[hh1];refine de (cU (wpAny_throw ?_));refine de (wpAny_isInstance ⟨_,lO _ rfl,rfl⟩ isSubtype_stop (cU (hQ _ fun b o n e=>?_)));exact nE _ (nE _ (s1.extBut b o n e))
theorem xE{d:Addr}(hd:(d==sysModules)=false):MeetsIn prog w (Builtin.«dict.__len__» ⟨[.ref d],[]⟩) (fun _ R s=>∃es ep,IL s.heap d es ep∧R (.ok (.ret (.int es.size s.toks))) { s with toks:=s.toks+1 }) :=
  .of_wp fun A R s ⟨es,ep,hm,h⟩=>by obtain⟨o,ho,hc,hq⟩:=hm;refine de (de (wpAny_notOrdered_dict ⟨o,ho,hc.1⟩ (cU ?_)));exact de (cU (de (de (wpAny_dictEntries ho hq (cU (de (wpAny_pendingCount_other hd (wpAny_ret_mkInt h))))))))
theorem L6{d:Addr}{es:Array DictEntry}{ep:Nat}(hd:(d==sysModules)=false)(hm:IL s.heap d es ep)(aeh:(es.size:Int)<2^63)(h:Q (.int es.size (s.toks+1)) { s with toks:=s.toks+1+1 }):wpAny (model prog w) A (call (.builtin "len") [.ref d]) Q E s:=by
  have P6:=hm;obtain⟨o,ho,hc,hq⟩:=P6;have hT:s.TypeIs (.ref d) "dict":=⟨o,ho,hc.1⟩
  have lo:¬ ((es.size:Int)<0):=by omega
  have hi:¬ ((es.size:Int)≥2^63):=by omega
  refine Calls.call_function_entry kind_len plain_len entry_len (args_len1 _) (de (cU (de ?_)));refine wpAny_callSpecial?_slot hT F.slot_dict_len (call_meetsIn F.slot_dict_len hT F.entry_dict_len (F.args_dict_len_1 _) (xE hd) ⟨es,ep,hm,?_⟩);refine de (uw (cU (de (wpAny_letGo ?_))));simp only[lo,hi,mE];exact de (wpAny_mkInt (cU ⟨_,rfl,h⟩))
end
end L2
namespace L2
open PySem PySem.Spec PyProof.Rows
section
variable {X:Cx} {pins:jc} {σ:St} {H:Hp} {s:Shared}
theorem Inv.freeze{d:Addr}(I:Inv X pins σ H s)(h:H d=some (.dT aW)):∃o,s.heap.get? d=some o∧Inv X pins σ (upd H d (.pM o (.dT aW))) s:=by
  obtain⟨z,y,xs,r,o,es,ep,h1,h2,h3,h4,h5⟩:=(show bU X.prog X.w H s.heap d (.dT aW) from I.cf d _ h)
  refine⟨o,h1,⟨I.ok,I.os,I.bare,⟨I.base.keep,I.base.slot,fun b u e n hx=>?_,I.base.there,fun b xs e=>?_,fun b u xs e=>?_,fun b ps e=>?_⟩,I.loc,I.cell,?_,fun x c e=>?_,fun p hp=>?_,fun b u e=>?_,I.len⟩⟩
  ·have q:=I.base.free b u e n hx;rw[ay (fun z=>by rw[z,h] at q;cases q)];exact q
  ·have q:=I.base.mG b xs e;rw[ay (u6 q h (fun z=>nomatch z))];exact q
  ·have q:=I.base.pB b u xs e;rw[ay (u6 q h (fun z=>nomatch z))];exact q
  ·obtain⟨m,q⟩:=I.base.pC b ps e;exact⟨m,by rw[ay (u6 q h (fun z=>nomatch z))];exact q⟩
  ·have q:=I.free;rw[ay (fun z=>by rw[z,h] at q;cases q)];exact q
  ·have q:=I.g8 x c e;rw[ay (fun z=>by rw[z,h] at q;cases q)];exact q
  ·obtain⟨e,n,rr⟩:=I.pin p hp;exact⟨e,by rw[ay (fun z=>by rw[z,h] at n;cases n)];exact n,rr⟩
  · have ho:∀c,H c=some (.own b)→upd H d (.pM o (.dT aW)) c=some (.own b):=fun c q=>by
      rw[ay (u6 q h (fun z=>nomatch z))];exact q
    have ht:∀c ys,H c=some (.tup ys)→upd H d (.pM o (.dT aW)) c=some (.tup ys):=fun c ys q=>by rw[ay (u6 q h (fun z=>nomatch z))];exact q
    by_cases hb:b=d
    ·subst hb;rw[aI] at e;cases e;exact⟨h1,(I.cf b _ h).mF (fun _ _ _ q=>q) ho ht⟩
    ·rw[ay hb] at e;exact(I.cf b u e).mF (fun _ _ _ q=>q) ho ht
end
def Itd(d:Addr)(o:Obj)(aW:List (List Key×V)):It :=
  ⟨fun i H=>H d=some (.pM o (.dT aW))∧i<aW.length,fun i H x H'=>H'=H∧∃k v b,aW[i]?=some (k,v)∧x=.ref b∧H b=some (.tup (k.map kV)),fun i H=>H d=some (.pM o (.dT aW))∧aW.length≤i⟩
theorem oO{α β:Type}{F:α→β→Prop}:∀{l:List α} {m:List β} {i:Nat} {x:α},Paired F l m→l[i]?=some x→∃y,m[i]?=some y∧F x y
  |_,_,_,_,.nil,e=>by simp at e
  |_,_,0,_,.cons r _,e=>by simp at e;subst e;exact⟨_,rfl,r⟩
  |_,_,i+1,x,.cons _ t,e=>by obtain⟨y,h1,h2⟩:=oO (i:=i) (x:=x) t (by simpa using e);exact⟨y,by simpa using h1,h2⟩
theorem Gj{K:PySem.W.Frag}(d it:Addr)(o:Obj)(aW:List (List Key×V))(es:Array DictEntry)(ep:Nat)(hx:o.ExactDict)(hd:o.data=.dict es ep)(hn:es.size=aW.length) :
    Turn P w K (.Name x px) (Itd d o aW) [it] it (fun i h=>h.IsKeyIter it d i es.size ep) where
  mem:=by simp
  obj:=fun i h st b hb=>by
    have e:b=it:=by simpa using hb
    subst e;obtain⟨o,e,c,dd⟩:=st;exact⟨o,e,fun v z=>by rw[dd] at z;cases z⟩
  keep:=fun i h h' st k=>by obtain⟨o,e,r⟩:=st;exact⟨o,k it (by simp) o e,r⟩
  item:=by
    intro X hP hw hK hc i pins s σ H E I hf st hg;subst hP hw hK;obtain⟨hH,hi⟩:=hg;obtain⟨g1,z,y,xs,r,o',U6,U7,h1,h2,h3,h4,h5⟩:=(show bU X.prog X.w H s.heap d (.pM o (.dT aW)) from I.cf d _ hH)
    rw[g1] at h1;cases h1;rw[hd] at h3;injection h3 with e1 e2;subst e1 e2;obtain⟨f0,f1,f2,f3,f4,f5⟩:=hf it (by simp);refine nR st ⟨o,g1,hx,hd⟩ (by omega) fun h' t7 sb=>?_;have I1:Inv X pins σ H { s with heap:=h' }:=I.turned (t':=s.toks) (fun b o hb e=>(sb.2 b hb).trans e) f0 f1 f3 f4 f5;obtain⟨q,hq,hk⟩:=oO (i:=i) (x:=aW[i]) r (by simp[hi]);have hes:es[i]'(by omega)=entryOfKey (tupleKind (eE X.prog X.w)) q:=by
      have e3:es.toList[i]?=some (entryOfKey (tupleKind (eE X.prog X.w)) q):=by rw[h4,nI,hq];rfl
      rw[Array.getElem?_toList,Array.getElem?_eq_getElem (by omega)] at e3;exact kj e3
    refine⟨_,rfl,?_⟩;have go:∀(u:Value) (Q:Unit→Shared→Prop),Q () { s with heap:=h' }→wpAny (model X.prog X.w) X.A (letOwnedTupleGo (.Name x px) (.ref it) u) Q E { s with heap:=h' }:=fun u Q hq=>cU hq;refine go _ _ ⟨.ref q.2.1,H,I1,?_,⟨rfl,aW[i].1,aW[i].2,q.2.1,by simp[hi],rfl,hk.2.1⟩,t7,fun b hb=>(hf b hb).1⟩;rw[hes];rfl
  done:=by
    intro X hP hw hK hc i pins s σ H E I hf st hg;subst hP hw hK;obtain⟨hH,hi⟩:=hg;obtain⟨g1,_⟩:=(show bU X.prog X.w H s.heap d (.pM o (.dT aW)) from I.cf d _ hH)
    obtain⟨f0,f1,f2,f3,f4,f5⟩:=hf it (by simp);exact pG (I.ok.hd hc) st ⟨o,g1,hx,hd⟩ (by omega) fun h' eb=>⟨rfl,I.turned (t':=s.toks) (fun b o hb e=>eb b o hb e) f0 f1 f3 f4 f5⟩
  self:=fun _ _ _ _ _ st h=>wpAny_pyIter_keyiter st h
section
variable {X:Cx}
theorem Gk:lT X (.builtin "len") (fun xs H Q=>∃a aW,xs=[V.ref a]∧Rd H a (.dT aW)∧Q (.int aW.length) H):=by
  intro pins s σ H xs us Q I r h;obtain⟨a,aW,rfl,ha,q⟩:=h;obtain⟨u,rfl,ru⟩:=vals1 r;cases ru;obtain⟨z,y,xs,r,o,es,ep,h1,h2,h3,h4,h5⟩:=(show bU X.prog X.w H s.heap a (.dT aW) from ha.ok I.cf)
  have hn:es.size=aW.length:=by have e1:=hJ List.length h4;rw[dX,Aq] at e1;rw[e1,Paired.length r]
  refine L6 y ⟨o,h1,h2,h3⟩ (by rw[hn];have:=vf;omega) ?_;rw[hn];exact⟨.int aW.length,H,I.tok _,⟨_,rfl⟩,q⟩
end
end L2
namespace L2
open PySem PySem.Spec PyProof.Rows PySem.W L4
section
variable {prog:Program} {w:World} {A:Around} {E:kX} {s:Shared}
theorem CK(vs:dW)(h:vs.length<2):((vs.toArray.zip vs.toArray).map (·.2)).toList=(List.toArray ((List.range vs.length).toArray.toList.map fun i=>vs.getD i Value.none)).toList:=by
  cases vs with
  |nil=>simp
  |cons v t =>
   cases t with
   |nil=>simp
   |cons _ _=>simp only[xr] at h;omega
theorem CL{P:PySem.Fin→Shared→Prop}{Good:dW→Prop}(ho:s.heap.get? a=some (seqObj "list" vs.toArray n))(uP:vs.length<64)(core:∀h':Heap,(∀b o,b≠a→s.heap.get? b=some o→h'.get? b=some o)→∀R:Unit×SortSt→Shared→Prop,(∀st out,(arrOf st).map (·.2)=List.toArray out→out.length=vs.length→failedOf st=none→Good out→R ((),st) { s with heap:=h' })→wpAny (model prog w) A (if vs.toArray.size<2 then pure general' else keyKind' vs.toArray) (fun k s'=>wpAny (model prog w) A (StateT.run (if vs.toArray.size<2 then pure () else sortRuns') (SortSt.mk' k (vs.toArray.zip vs.toArray) #[] 7 none)) R E s') E { s with heap:=h' })(fin:∀out,Good out→P (.done (.ret .none)) { s with heap:=sortedHeap s.heap a vs (List.toArray out) }):wpAny (model prog w) A (Builtin.«list.sort» ⟨[.ref a],[]⟩) P E s:=by
  have em:=get?_update_seq ho fun _=>(#[]:Array Value)
  have em2:=nE (seqObj "list" #[] 0) (nE (seqObj "tuple" vs.toArray 0) em);rw[list_sort_plain];refine de (listItems_at ho rfl (de (listUpdate_at ho rfl (de (seqEpoch_at em rfl (de (wpAny_newTuple (de (wpAny_newList (uw ?_))))))))));have dist:∀{α β:Type} (c:Prop) [Decidable c] (x y:Sem α) (f:α→Sem β),(if c then x>>=f else y>>=f)=(if c then x else y)>>=f:=fun c _ x y f=>by split<;>rfl
  dsimp only;rw[dist];refine de (j4 (core _ (fun b o n e=>nE _ (nE _ ((Heap.get?_update_ne _ _ _ _ n).trans e))) _ fun st out so lo fo g=>?_) (fun k s' r=>de r) fun _ _ e=>e);refine de (seqEpoch_at em2 rfl (de (listUpdate_at em2 rfl ?_ (pY _) ?_)))
  ·dsimp only;rw[fo,so,bne_self_eq_false];exact cU (fin out g)
  ·rw[so,iO,lo,mD];omega
theorem Gm{lt:Nat→Nat→Bool}{R:Unit×SortSt→Shared→Prop}(uP:vs.length<64)(hk:2≤vs.length→∀Q:SortKind→Shared→Prop,Q κ s→wpAny (model prog w) A (keyKind' vs.toArray) Q E s)(nF:∀i j (C:Bool→Shared→Prop),i<vs.length→j<vs.length→C (lt i j) s→wpAny (model prog w) A (keyLt' κ (vs.getD i Value.none) (vs.getD j Value.none)) C (fun _ _=>False) s)(few:vs.length<2→W (List.range vs.length).toArray)(many:2≤vs.length→W (fj lt (kas_sort vs.length)))(hR:∀st p,bE vs.length p→W p→(arrOf st).map (·.2)=List.toArray (p.toList.map fun i=>vs.getD i Value.none)→failedOf st=none→R ((),st) s):wpAny (model prog w) A (if vs.toArray.size<2 then pure general' else keyKind' vs.toArray) (fun k s'=>wpAny (model prog w) A (StateT.run (if vs.toArray.size<2 then pure () else sortRuns') (SortSt.mk' k (vs.toArray.zip vs.toArray) #[] 7 none)) R E s') E s:=by
  rcases Nat.lt_or_ge vs.length 2 with l|l
  ·have l':vs.toArray.size<2:=l;simp only[l',iq];exact cU (cU (hR _ _ (bE.id _) (few l) (Array.toList_inj.mp (CK vs l)) rfl))
  · have l':¬ vs.toArray.size<2:=Nat.not_lt.mpr l;simp only[l',mE];refine hk l _ (j4 (kat_run (ks:=vs) (G:=fun p s'=>bE vs.length p∧W p∧s'=s) (Q:=fun st s'=>R ((),st) s') rfl l uP (fun p st s' _ e f g=>?_) (IG (S:=fun s'=>s'=s) (lt:=lt) (n:=vs.length) (P:=bE vs.length) (fun i j C s' hi hj e hc=>?_) _ _ (AR (by omega)) rfl fun s' e q=>⟨q,many l,e⟩)) (fun _ _ r=>r) fun _ _ e=>e)
    ·obtain⟨g1,g2,rfl⟩:=g;exact hR st p g1 g2 (kat_snds rfl e) f
    ·subst e;exact nF i j C hi hj (hc _ rfl)
theorem za{P:PySem.Fin→Shared→Prop}{lt:Nat→Nat→Bool}(ho:s.heap.get? a=some (seqObj "list" vs.toArray n))(uP:vs.length<64)(hk:2≤vs.length→∀(h':Heap),(∀b o,b≠a→s.heap.get? b=some o→h'.get? b=some o)→∀Q:SortKind→Shared→Prop,Q κ { s with heap:=h' }→wpAny (model prog w) A (keyKind' vs.toArray) Q E { s with heap:=h' })(nF:∀(h':Heap),(∀b o,b≠a→s.heap.get? b=some o→h'.get? b=some o)→∀i j (C:Bool→Shared→Prop),i<vs.length→j<vs.length→C (lt i j) { s with heap:=h' }→wpAny (model prog w) A (keyLt' κ (vs.getD i Value.none) (vs.getD j Value.none)) C (fun _ _=>False) { s with heap:=h' })(few:vs.length<2→W (List.range vs.length).toArray)(many:2≤vs.length→W (fj lt (kas_sort vs.length)))(h:∀p:Array Nat,bE vs.length p→W p→P (.done (.ret .none)) { s with heap:=sortedHeap s.heap a vs (List.toArray (p.toList.map fun i=>vs.getD i Value.none)) }):wpAny (model prog w) A (Builtin.«list.sort» ⟨[.ref a],[]⟩) P E s :=
  CL (Good:=fun out=>∃p,bE vs.length p∧W p∧out=p.toList.map fun i=>vs.getD i Value.none) ho uP
    (fun h' kp R hR=>Gm (s:={ s with heap:=h' }) (κ:=κ) (lt:=lt) (W:=W) uP (fun l=>hk l h' kp) (nF h' kp) few many fun st p g1 g2 g3 g4=>hR st _ g3 (by rw[dX,Aq];exact g1.size) g4 ⟨p,g1,g2,rfl⟩)
    (by rintro _ ⟨p,g1,g2,rfl⟩;exact h p g1 g2)
theorem zb{l:Addr}{Good:Array Value→Prop}(uP:vs.length<64)(items:∀R:dW→Shared→Prop,R vs { s with heap:=(s.heap.push (seqObj "list" #[] 0)).update s.heap.objs.size (Obj.mapSeq (·++vs.toArray)) }→wpAny (model prog w) A.in1 (collect (.ref l)) R E s)(sorts:∀(s1:Shared) (a:Addr),s1.heap.get? a=some (seqObj "list" vs.toArray 0)→s1={ s with heap:=s1.heap }→(∀b o,s.heap.get? b=some o→b≠a∧s1.heap.get? b=some o)→∀P:PySem.Fin→Shared→Prop,(∀out,Good out→P (.done (.ret .none)) { s1 with heap:=sortedHeap s1.heap a vs out })→wpAny (model prog w) A.in1.in1 (Builtin.«list.sort» ⟨[.ref a],[]⟩) P (fun _ _=>False) s1)(h:∀out,Good out→Q (.ref (s.heap.objs.size+1)) { s with heap:=sortedAll s.heap vs out }):wpAny (model prog w) A (call (.builtin "sorted") [.ref l]) Q E s:=by
  refine Calls.call_function_entry kind_sorted plain_sorted entry_sorted (args_sorted1 _) (de (cU (de (items _ (de (wpAny_newList ?_ (by rw[mD];omega)))))));have z:((s.heap.push (seqObj "list" #[] 0)).update s.heap.objs.size (Obj.mapSeq (·++vs.toArray))).objs.size=s.heap.objs.size+1:=(Heap.size_update ..).trans (size_push' ..);have new:=lO ((s.heap.push (seqObj "list" #[] 0)).update s.heap.objs.size (Obj.mapSeq (·++vs.toArray))) (o:=seqObj "list" vs.toArray 0) rfl;dsimp only;rw[z] at new⊢;refine de (uw (wpAny_call_entry slot_list_sort ⟨_,new,rfl⟩ entry_list_sort (j4 (sorts _ _ new rfl (fun b o e=>?_) (fun f s'=>∃out,Good out∧f=.done (.ret .none)∧s'={ s with heap:=sortedAll s.heap vs out }) fun out g=>⟨out,g,rfl,rfl⟩) (fun f s' r=>?_) fun _ _ e=>e.elim) (args_list_sort _)))
  ·have lt:=dR e;exact⟨iP (Nat.lt_succ_of_lt lt),nE _ ((Heap.get?_update_ne _ _ _ _ (iP lt)).trans (nE _ e))⟩
  ·obtain⟨out,g,rfl,rfl⟩:=r;exact⟨_,rfl,cU ⟨_,rfl,h out g⟩⟩
theorem Gn{l:Addr}{lt:Nat→Nat→Bool}(hl:s.heap.IsList l vs.toArray)(uP:vs.length<64)(hk:2≤vs.length→∀(h':Heap),(∀b o,s.heap.get? b=some o→h'.get? b=some o)→∀Q:SortKind→Shared→Prop,Q κ { s with heap:=h' }→wpAny (model prog w) A.in1.in1 (keyKind' vs.toArray) Q (fun _ _=>False) { s with heap:=h' })(nF:∀(h':Heap),(∀b o,s.heap.get? b=some o→h'.get? b=some o)→∀i j (C:Bool→Shared→Prop),i<vs.length→j<vs.length→C (lt i j) { s with heap:=h' }→wpAny (model prog w) A.in1.in1 (keyLt' κ (vs.getD i Value.none) (vs.getD j Value.none)) C (fun _ _=>False) { s with heap:=h' })(few:vs.length<2→W (List.range vs.length).toArray)(many:2≤vs.length→W (fj lt (kas_sort vs.length)))(h:∀p:Array Nat,bE vs.length p→W p→Q (.ref (s.heap.objs.size+1)) { s with heap:=sortedAll s.heap vs (List.toArray (p.toList.map fun i=>vs.getD i Value.none)) }):wpAny (model prog w) A (call (.builtin "sorted") [.ref l]) Q E s:=by
  refine zb (Good:=fun out=>∃p:Array Nat,bE vs.length p∧W p∧out=List.toArray (p.toList.map fun i=>vs.getD i Value.none)) uP (fun R r=>collect_list hl r (by rw[mD];omega)) (fun s1 a ha e kp P hP=>?_) (by rintro _ ⟨p,g1,g2,rfl⟩;exact h p g1 g2);rw[e] at ha⊢;have up:∀h':Heap,(∀b o,b≠a→s1.heap.get? b=some o→h'.get? b=some o)→∀b o,s.heap.get? b=some o→h'.get? b=some o:=fun h' k b o q=>k b o (kp b o q).1 (kp b o q).2;exact za (κ:=κ) (lt:=lt) (W:=W) ha uP (fun l h' k=>hk l h' (up h' k)) (fun h' k=>nF h' (up h' k)) few many fun p g1 g2=>e▸hP _ ⟨p,g1,g2,rfl⟩
theorem Gp{l:Addr}{lt:Nat→Nat→Bool}(hl:s.heap.IsList l vs.toArray)(uP:vs.length<64)(hk:2≤vs.length→∀(h':Heap),(∀b o,s.heap.get? b=some o→h'.get? b=some o)→∀Q:SortKind→Shared→Prop,Q κ { s with heap:=h' }→wpAny (model prog w) A.in1.in1 (keyKind' vs.toArray) Q (fun _ _=>False) { s with heap:=h' })(nF:∀(h':Heap),(∀b o,s.heap.get? b=some o→h'.get? b=some o)→∀i j (C:Bool→Shared→Prop),i<vs.length→j<vs.length→C (lt i j) { s with heap:=h' }→wpAny (model prog w) A.in1.in1 (keyLt' κ (vs.getD i Value.none) (vs.getD j Value.none)) C (fun _ _=>False) { s with heap:=h' })(hS:jN vs.length lt)(h:∀p:Array Nat,bE vs.length p→Up lt p vs.length→Q (.ref (s.heap.objs.size+1)) { s with heap:=sortedAll s.heap vs (List.toArray (p.toList.map fun i=>vs.getD i Value.none)) }):wpAny (model prog w) A (call (.builtin "sorted") [.ref l]) Q E s :=
  Gn (W:=fun p=>Up lt p vs.length) hl uP hk nF (fun l i j vq hj=>by omega) (fun l=>(Es hS l).2) h
end
def uB(d e:Int×bD):Bool:=if d.1=e.1 then HT.lexLt d.2 e.2 else decide (d.1<e.1)
theorem qR:∀{a b c:bD},HT.lexLt a b=true→HT.lexLt b c=true→HT.lexLt a c=true
  |[],[],_,h,_=>by simp[HT.pO] at h
  |[],_::_,[],_,h=>by simp[HT.iR] at h
  |[],_::_,_::_,_,_=>rfl
  |_::_,[],_,h,_=>by simp[HT.iR] at h
  |_::_,_::_,[],_,h=>by simp[HT.iR] at h
  |x::r,y::t,z::u,h1,h2=>by
   rw[HT.kr] at h1 h2⊢;by_cases e1:x=y
   · rw[bR e1] at h1;by_cases e2:y=z
     ·rw[bR e2] at h2;rw[bR (e1.trans e2)];exact qR h1 h2
     ·rw[bS e2] at h2;rw[bS (fun q=>e2 (e1.symm.trans q)),e1];exact h2
   · rw[bS e1] at h1;have l1:x<y:=by simpa using h1
     by_cases e2:y=z
     ·rw[bS (fun q=>e1 (q.trans e2.symm)),←e2];exact h1
     · rw[bS e2] at h2;have l2:y<z:=by simpa using h2
       rw[bS (by omega)];simp;omega
theorem oP:∀{a b:bD},a≠b→HT.lexLt a b=false→HT.lexLt b a=true
  |[],[],h,_=>absurd rfl h
  |[],_::_,_,h=>by simp[HT.nL] at h
  |_::_,[],_,_=>rfl
  |x::r,y::t,mz,h=>by
   rw[HT.kr] at h⊢;by_cases e:x=y
   ·rw[bR e] at h;rw[bR e.symm];exact oP (fun q=>mz (by rw[e,q])) h
   · rw[bS e] at h;rw[bS (fun q=>e q.symm)];have:¬ x<y:=by simpa using h
     simp;omega
theorem zc{a b c:Int×bD}(h1:uB a b=true)(h2:uB b c=true):uB a c=true:=by
  unfold uB at *;by_cases e1:a.1=b.1
  · rw[bR e1] at h1;by_cases e2:b.1=c.1
    ·rw[bR e2] at h2;rw[bR (e1.trans e2)];exact qR h1 h2
    ·rw[bS e2] at h2;rw[bS (fun q=>e2 (e1.symm.trans q)),e1];exact h2
  · rw[bS e1] at h1;have l1:a.1<b.1:=by simpa using h1
    by_cases e2:b.1=c.1
    ·rw[bS (fun q=>e1 (q.trans e2.symm)),←e2];exact h1
    · rw[bS e2] at h2;have l2:b.1<c.1:=by simpa using h2
      rw[bS (by omega)];simp;omega
theorem zf{a b:Int×bD}(mz:a≠b)(h:uB a b=false):uB b a=true:=by
  unfold uB at *;by_cases e:a.1=b.1
  ·rw[bR e] at h;rw[bR e.symm];exact oP (fun q=>mz (Prod.ext e q)) h
  · rw[bS e] at h;rw[bS (fun q=>e q.symm)];have:¬ a.1<b.1:=by simpa using h
    simp;omega
def pairAt(H:Hp)(v:V)(d:Int×bD):Prop:=∃a p,v=.ref a∧H a=some (.tup [.int d.1,.ref p])∧H p=some (.tup (d.2.map V.int))
theorem nS{α:Type}(l:List α)(d:α):(List.range l.length).map (fun i=>l.getD i d)=l:=by
  refine List.ext_getElem? fun i=>?_;rw[nI];by_cases h:i<l.length
  ·rw[List.getElem?_range h,nH h];simp[pw,h]
  ·rw[List.getElem?_eq_none (by simpa using h),List.getElem?_eq_none (by simpa using h)];rfl
theorem Eu{α:Type}{l:List α}(d:α)(h:bE l.length p):(p.toList.map fun i=>l.getD i d).Perm l:=by
  have h1:p.toList.Perm (List.range l.length):=by simpa using Array.perm_iff_toList_perm.mp h.perm
  have h2:=h1.map (fun i=>l.getD i d);rw[nS] at h2;exact h2
theorem ub{α:Type}{l:List α}(d:α)(R:α→α→Bool)(hn:bE l.length p)(h:Up (fun i j=>R (l.getD i d) (l.getD j d)) p l.length):(p.toList.map fun i=>l.getD i d).Pairwise (fun a b=>R a b=true):=by
  rw[List.pairwise_iff_getElem];intro i j hi hj vq;simp only[List.getElem_map,Array.getElem_toList];have hs:=hn.size;have Rr:j<p.size:=by simpa using hj
  have P0:i<p.size:=by simpa using hi
  have q:=h i j vq (by omega);have e1:p.getD i 0=p[i]:=by simp[Array.getD,P0]
  have e2:p.getD j 0=p[j]:=by simp[Array.getD,Rr]
  rw[e1,e2] at q;exact q
theorem bZ{α β:Type}{F:α→β→Prop}{l:List α}{m:List β}(h:Paired F l m)(hi:i<l.length)(d:α)(e:β):F (l.getD i d) (m.getD i e):=by obtain⟨y,h1,h2⟩:=oO (i:=i) (x:=l[i]) h (by simp[hi]);rw[pw,pw,h1,nH hi];exact h2
theorem kx{α β γ:Type}{F:α→β→Prop}(f:γ→α)(g:γ→β):∀{l:List γ},(∀x∈l,F (f x) (g x))→Paired F (l.map f) (l.map g)
  |[],_=>.nil
  |x::r,h=>.cons (h x hI) (kx f g fun y hy=>h y (h9 _ hy))
section
variable {X:Cx}
theorem xF{ds:K8}(hd:ds.Nodup):jN ds.length (fun i j=>uB (ds.getD i (0,[])) (ds.getD j (0,[]))) where
  tr:=fun i j k _ _ _ h1 h2=>zc h1 h2
  SW:=fun i j hi hj mz h=>zf (fun q=>mz (by
    rw[pw,pw,nH hi,nH hj] at q;exact(List.getElem_inj hd).mp q)) h
theorem Gq(I:Inv X pins σ H s){d:Int×bD}(r:RelV v u)(h:pairAt H v d):∃a p t its,u=.ref a∧IsTup s.heap a [Value.int d.1 t,Value.ref p].toArray∧IsTup s.heap p its.toArray∧Vals (d.2.map V.int) its:=by
  obtain⟨a,p,rfl,h1,h2⟩:=h;cases r;obtain⟨t,ht⟩:=L3 I (j9.of h1);obtain⟨its,rv,hp,_⟩:=I.tuple (j9.of h2);exact⟨a,p,t,its,rfl,ht,hp,rv⟩
theorem zg(hu:X.A.units+5<cLine):lT X (.builtin "sorted") (fun xs H Q=>∃p vs ds,xs=[.ref p]∧jE X.K H p vs∧Paired (pairAt H) vs ds∧ds.Nodup∧vs.length<64∧∀l S0 p8,H l=none→Paired (pairAt H) S0 p8→p8.Perm ds→p8.Pairwise (fun a b=>uB a b=true)→Q (.ref l) (upd H l (.lst S0))):=by
  intro pins s σ H xs us Q I r h;obtain⟨p,vs,ds,rfl,hq,hp,NX,uP,h⟩:=h;obtain⟨u,rfl,ru⟩:=vals1 r;cases ru;obtain⟨its,rv,hl,_⟩:=I.list hq;have l1:vs.length=its.length:=rv.length;have l2:vs.length=ds.length:=hp.length;have at_:∀i,i<its.length→∃a q t js,its.getD i Value.none=.ref a∧IsTup s.heap a [Value.int (ds.getD i (0,[])).1 t,Value.ref q].toArray∧IsTup s.heap q js.toArray∧Vals ((ds.getD i (0,[])).2.map V.int) js:=fun i hi =>
    Gq I (bZ rv (by omega) V.non Value.none) (bZ hp (by omega) V.non (0,[]))
  have vw:∀{h':Heap} {a:Addr} {zs:Array Value},(∀b o,s.heap.get? b=some o→h'.get? b=some o)→IsTup s.heap a zs→IsTup h' a zs:=fun {h' a zs} k ⟨o,e,c⟩=>⟨o,k _ _ e,c⟩
  have hS:=xF NX;rw[←l2,l1] at hS;refine Gp (κ:=tuples' true) (lt:=fun i j=>uB (ds.getD i (0,[])) (ds.getD j (0,[]))) hl.isList (by omega) (fun h2 h' kk Q' Vh=>?_) (fun h' kk i j C hi hj hc=>?_) hS (fun pm hP hU=>?_)
  · have mG:∀(vl:dW),(∀v∈vl,∃a n t q,v=.ref a∧IsTup h' a [Value.int n t,Value.ref q].toArray)→∃fs:dW,KatTups h' vl fs∧fs.length=vl.length∧∀v∈fs,∃n t,v=.int n t:=by
      intro vl;induction vl with
      |nil=>intro _;exact⟨[],trivial,rfl,fun _ z=>nomatch z⟩
      |cons v r ih =>
       intro hv;obtain⟨a,n,t,q,rfl,o,e,c,m,dd⟩:=hv v hI;obtain⟨fs,k1,k2,k3⟩:=ih fun y hy=>hv y (h9 _ hy);refine⟨.int n t::fs,⟨⟨a,o,_,m,rfl,e,c,dd,rfl⟩,k1⟩,by simp[k2],fun y hy=>?_⟩;rcases gB.mp hy with z|z
       ·exact⟨n,t,z⟩
       ·exact k3 y z
    obtain⟨fs,k1,k2,k3⟩:=mG its (fun v hv=>by
      obtain⟨i,hi,rfl⟩:=List.mem_iff_getElem.mp hv;obtain⟨a,q,t,js,e1,e2,_⟩:=at_ i hi;rw[pw,nH hi] at e1;exact⟨a,_,t,q,e1,vw kk e2⟩)
    refine kat_kind (s:={ s with heap:=h' }) (T:=.type "int") k1 (by omega) (fun v hv=>?_) rfl ?_
    ·obtain⟨n,t,rfl⟩:=k3 v hv;exact Looks.of_pure rfl
    ·exact Vh
  · obtain⟨a,q,t,js,e1,e2,e3,e4⟩:=at_ i hi;obtain⟨b,q',t',js',f1,f2,f3,f4⟩:=at_ j hj;rw[e1,f1];obtain⟨oa,ga,_,na,da⟩:=vw kk e2;obtain⟨ob,gb,_,nb,db⟩:=vw kk f2;have Vf:X.A.in1.in1.units<cLine:=by rw[in1_units,in1_units];omega
    refine kat_lt (s:={ s with heap:=h' }) ga da gb db ?_;refine kat_cons (SeqAt.EqAt.int_int _ _ _ _ _ _ _ _ (kat_go (fun e=>kat_yes ?_) (fun e=>kat_no ?_)))
    · have vq:(ds.getD i (0,[])).1=(ds.getD j (0,[])).1:=by simpa using e
      have Cm:C (HT.lexLt (ds.getD i (0,[])).2 (ds.getD j (0,[])).2) { s with heap:=h' }:=by have e5:uB (ds.getD i (0,[])) (ds.getD j (0,[]))=HT.lexLt (ds.getD i (0,[])).2 (ds.getD j (0,[])).2:=bR vq;rw[←e5];exact hc
      refine kat_cons (Gh (s:={ s with heap:=h' }) (vw kk e3) (vw kk f3) e4 f4 Vf _ _ _ _ (kat_go (fun e'=>kat_yes (kat_nil ?_)) (fun e'=>kat_no ?_)))
      · have e6:(ds.getD i (0,[])).2=(ds.getD j (0,[])).2:=by simpa using e'
        rw[e6,mJ] at Cm;exact Cm
      ·refine kat_one _ _ ?_;refine HT.Cw (s:={ s with heap:=h' }) (vw kk e3) (vw kk f3) (by simpa using intsAre_of e4) (by simpa using intsAre_of f4) Vf ?_;exact Cm
    · have vq:¬ (ds.getD i (0,[])).1=(ds.getD j (0,[])).1:=by simpa using e
      refine oneLt_int ?_;have e5:uB (ds.getD i (0,[])) (ds.getD j (0,[]))=decide ((ds.getD i (0,[])).1<(ds.getD j (0,[])).1):=bS vq;rw[←e5];exact hc
  · have NZ:bE ds.length pm:=by rw[←l2,l1];exact hP
    have P7:bE vs.length pm:=by rw[l1];exact hP
    have hm:∀i∈pm.toList,i<vs.length:=fun i hi=>by
      have:=(Array.perm_iff_toList_perm.mp hP.perm).mem_iff.mp hi;have h3:i<its.length:=by simpa using this
      omega
    have h1:=h (s.heap.objs.size+1) (pm.toList.map fun i=>vs.getD i V.non) (pm.toList.map fun i=>ds.getD i (0,[])) (I.cf.fresh (by omega)) (kx _ _ fun i hi=>bZ hp (hm i hi) _ _) (Eu _ NZ)
      (ub (0,[]) uB NZ (by rw[←l2,l1];exact hU))
    obtain⟨e,he⟩:=sortedAll_at s.heap its (List.toArray (pm.toList.map fun i=>its.getD i Value.none));refine⟨.ref (s.heap.objs.size+1),_,I.laid (a:=s.heap.objs.size+1) (o:=.lst (pm.toList.map fun i=>vs.getD i V.non)) (t':=s.toks) (fun b o q=>sortedAll_old q) (by omega) ⟨?_,pm.toList.map fun i=>its.getD i Value.none,e,kx _ _ fun i hi=>bZ rv (hm i hi) _ _,he⟩,rfl,h1⟩;rw[dX,Aq,P7.size,mD];omega
end
end L2
namespace L2
open PySem PySem.Spec PyProof.Rows PySem.W
section
variable {X:Cx}
theorem AU(hc:X.calm=true):lT X (.builtin "sum") (fun xs H Q=>∃(p:Addr) (ns:bD),xs=[.ref p]∧jE X.K H p (ns.map V.int)∧Q (.int ns.sum) H):=by
  intro pins s σ H xs us Q I r h;obtain⟨p,ns,rfl,hq,q⟩:=h;obtain⟨u,rfl,ru⟩:=vals1 r;cases ru;obtain⟨its,rv,hl,_⟩:=I.list hq;have hi:=intsAre_of rv;obtain⟨zs,ez⟩:=hi.allInts.items;refine sum_intListG (xs:=zs) (I.ok.hd hc) (by rw[←ez];exact hl.isList) fun h' tk t' hk=>?_;have e:preSum (numAt zs) zs.size=ns.sum:=by
    have e1:numsOf its=ns:=hi.numsOf;have e2:numsOf (intItems zs).toList=numsOf its:=by rw[←ez]
    rw[nums_intItems] at e2;rw[preSum_eq,List.take_of_length_le (by simp),e2,e1]
  rw[e];exact⟨.int ns.sum,H,I.kept hk,⟨_,rfl⟩,q⟩
end
end L2
namespace L2
open PySem PySem.Spec PyProof.Rows
structure gE (P:Program) (w:World) (K:PySem.W.Frag) (mg:Str→fV) (base:Heap) (k:Nat) (f:Addr) (ps:g7) (sp:Sp):Prop where
  ex:∃fd,dw P w K mg base kY k f fd ps sp∧Binds K fd ps []∧keepIn K (.ref f)=true
theorem CM{ps:g7}{sp:Sp}{p:Pos}{es:List Expr}{t:TA}(C:gE X.prog X.w X.K X.mg X.base k f ps sp)(hr:eW k X.A)(hg:Gl X x)(hm:X.mg x=some (.ref f))(ha:PA X (e::es) t)(lU:(x==("__debug__":Str))=false:=by decide)(he:starEach (e::es) X.env=(false,eval e X.env)::starEach es X.env:=by rfl)(jz:(backTo pos (starEach es X.env)).any (·.1)=false:=by rfl):PE X (.Call (.Name x p) (e::es) [] pos) (HZ sp [] E0 t):=by
  obtain⟨fd,G,b,kp⟩:=C.ex;exact Ed G hr hg hm kp b .nil NR ha lU he jz
theorem fq{p:Addr}(h:H p=none)(o:HO):cq H (upd H p o):=fun b u q=>by rw[ay (bp q h)];exact q
theorem vx(n:Int):∀ms:bD,Rn (.int n) (ms.map V.int)=ms.contains n
  |[]=>rfl
  |m::r=>by
   have ih:=vx n r;show(LR (V.int m) (V.int n)||Rn (.int n) (r.map V.int))=_;rw[ih,List.contains_cons]
   congr 1
   show(m==n)=(n==m)
   rw[Bool.eq_iff_iff];simp;exact eq_comm
theorem Ew(h:n≤1000):n≤sizeLine:=Nat.le_of_lt (Ge h)
def Li(ns ms:bD):Nat:=(ns.filter fun n=>ms.contains n).length
theorem P8(ns ms:bD):Li ns ms≤ns.length:=List.length_filter_le _ _
def zh:bD:=[0,60,90,110,125,137,147]
def dG(hs:ip)(ms:bD):Int:=(hs.map fun h=>h.2*zh.getD (Li h.1 ms) 0).sum
def S1:Nat→Int
  |0=>0
  |n+1=>S1 n+60 / (1+n)
theorem Vi(h:n≤6):S1 n=zh.getD n 0:=by
  have:n=0∨n=1∨n=2∨n=3∨n=4∨n=5∨n=6:=by omega
  rcases this with rfl|rfl|rfl|rfl|rfl|rfl|rfl<;>decide
theorem L7(h:n≤6):-(2^64)<zh.getD n 0∧zh.getD n 0<2^64:=by
  have:n=0∨n=1∨n=2∨n=3∨n=4∨n=5∨n=6:=by omega
  rcases this with rfl|rfl|rfl|rfl|rfl|rfl|rfl<;>decide
def ng(count:Int)(ns:bD):Prop:=ns.Pairwise (·<·)∧∀n∈ns,0≤n∧n<count
theorem IQ(n:Nat):((List.range n).map fun i:Nat=>(0:Int)+(i:Int)).Pairwise (·<·):=by rw[List.pairwise_map];exact List.pairwise_lt_range.imp fun h=>by omega
theorem AV(n:Nat)(p:Int→Bool):ng (n:Int) (((List.range n).map fun i:Nat=>(0:Int)+(i:Int)).filter p):=by refine⟨(IQ n).filter _,fun x hx=>?_⟩;obtain⟨i,hi,rfl⟩:=lR.mp (j3.mp hx).1;have:=xt.mp hi;omega
theorem ng.filter{count:Int}(h:ng count ns)(p:Int→Bool):ng count (ns.filter p):=⟨h.1.filter _,fun x hx=>h.2 x (j3.mp hx).1⟩
theorem ye:∀{ns:bD} {lo:Int} {k:Nat},ns.Pairwise (·<·)→(∀n∈ns,lo≤n∧n<lo+k)→ns.length≤k
  |[],_,_,_,_=>pY _
  |x::r,lo,k,hp,hb=>by
   obtain⟨h1,h2⟩:=List.pairwise_cons.mp hp;have hx:=hb x hI;cases k with
   |zero=>omega
   |succ k =>
    have ih:=ye (ns:=r) (lo:=lo+1) (k:=k) h2 fun n hn=>by have a:=h1 n hn;have b:=hb n (h9 _ hn);omega
    simp only[xr];omega
theorem ng.le6{count:Int}(h:ng count ns)(hc:count≤6):ns.length≤6 :=
  ye (lo:=0) (k:=6) h.1 fun n hn=>by have:=h.2 n hn;omega
def IU(k:List Key):bD:=k.map fun x=>match x with|.inl i=>i|.inr _=>0
theorem yf(ns:bD):IU (ns.map Sum.inl)=ns:=by unfold IU;rw[ko];exact List.map_id' ns
structure DOk (count:Int) (aW:List (List Key×V)):Prop where
  nd:(aW.map (·.1)).Nodup
  all:∀kv∈aW,∃(ns:bD) (m:Int),kv=(ns.map Sum.inl,.int m)∧ng count ns∧1≤m
structure Ex (count:Int) (hs:ip):Prop where
  ne:hs≠[]
  all:∀h∈hs,ng count h.1∧1≤h.2
  up:hs.Pairwise (fun a b=>uB ((a.1.length:Int),a.1) ((b.1.length:Int),b.1)=true)
  len:hs.length≤63
end L2
namespace DL
open PySem PySem.Spec PyProof.Rows L2
inductive D where
  |non|bl (b:Bool)|int (i:Int)|str (x:Str)|tup (xs:List D)|lst (xs:List D)|obj (C:Addr)|exc (C:Addr)
def lW(a C:Addr)(h:Heap):Prop:=∃o,h.get? a=some o∧o.cls=.ref C
def S2:Str:="Most.order"
def zi:Str:="Most.order.<locals>.<lambda>"
def jO(K:PySem.W.Frag):Option (Addr×Addr):=(K.find? fun p=>codeIn K (.ref p.1) S2).bind fun p=>match p.2.data with
  |.fields vs=>(match (vs[11]?:fV) with|some (.ref P)=>some (p.1,P)|_=>none)
  |_=>none
def gF(K:PySem.W.Frag)(F:Hp):Prop:=∀c P,jO K=some (c,P)→F P=some (.yQ #[.str zi 0])
theorem gF.mono{K:PySem.W.Frag}(t:gF K F)(s:cq F F'):gF K F':=fun c P e=>s _ _ (t c P e)
mutual
def Den(K:PySem.W.Frag)(F:Hp):D→V→Prop
  |.non,v=>v=.non
  |.bl b,v=>v=.bl b
  |.int i,v=>v=.int i
  |.str x,v=>v=.str x
  |.tup ds,v=>∃a vs,v=.ref a∧F a=some (.tup vs)∧cc K F ds vs
  |.lst ds,v=>∃a vs,v=.ref a∧jE K F a vs∧cc K F ds vs
  |.obj C,v=>∃a dx,v=.ref a∧F a=some (.ins C dx [])∧gF K F
  |.exc C,v=>∃a,v=.ref a∧F a=some (.ext (lW a C))
def cc(K:PySem.W.Frag)(F:Hp):List D→List V→Prop
  |[],vs=>vs=[]
  |d::ds,vs=>∃v r,vs=v::r∧Den K F d v∧cc K F ds r
end
mutual
def D.xm:D→Bool
  |.tup ds=>D.CN ds
  |.lst _=>false
  |.obj _=>false
  |.exc _=>false
  |_=>true
def D.CN:List D→Bool
  |[]=>true
  |d::ds=>D.xm d&&D.CN ds
end
section
variable {K:PySem.W.Frag} {F F' H:Hp}
theorem aR{ds:List D}:Den K F (.tup ds) v↔∃a vs,v=.ref a∧F a=some (.tup vs)∧cc K F ds vs:=by rw[Den]
theorem aU{ds:List D}:Den K F (.lst ds) v↔∃a vs,v=.ref a∧jE K F a vs∧cc K F ds vs:=by rw[Den]
theorem eZ:Den K F (.obj C) v↔∃a dx,v=.ref a∧F a=some (.ins C dx [])∧gF K F:=by rw[Den]
theorem gU:Den K F (.exc C) v↔∃a,v=.ref a∧F a=some (.ext (lW a C)):=by rw[Den]
theorem aO{i:Int}:Den K F (.int i) v↔v=.int i:=by rw[Den]
theorem bK{i:Bool}:Den K F (.bl i) v↔v=.bl i:=by rw[Den]
theorem cj{i:Str}:Den K F (.str i) v↔v=.str i:=by rw[Den]
theorem bO:Den K F .non v↔v=.non:=by rw[Den]
theorem bq{vs:List V}:cc K F [] vs↔vs=[]:=by rw[cc]
theorem aE{d:D}{ds:List D}{vs:List V}:cc K F (d::ds) vs↔∃v r,vs=v::r∧Den K F d v∧cc K F ds r:=by rw[cc]
theorem qS:∀{ds:List D} {vs:List V},cc K F ds vs↔Paired (fun d v=>Den K F d v) ds vs
  |[],vs=>by
   rw[bq];constructor
   ·rintro rfl;exact .nil
   ·intro h;cases h;rfl
  |d::ds,vs=>by
   rw[aE];constructor
   ·rintro⟨v,r,rfl,h1,h2⟩;exact .cons h1 (qS.mp h2)
   · intro h;cases h with
     |cons h1 h2=>exact⟨_,_,rfl,h1,qS.mpr h2⟩
theorem bh{ds:List D}{vs:List V}(h:cc K F ds vs):ds.length=vs.length:=Paired.length (qS.mp h)
theorem AW:∀{ds:List D} {vs:List V} {i:Nat} {d:D},cc K F ds vs→ds[i]?=some d→∃v,vs[i]?=some v∧Den K F d v
  |[],_,_,_,_,e=>by simp at e
  |x::ds,vs,0,d,h,e=>by obtain⟨v,r,rfl,h1,h2⟩:=aE.mp h;simp at e;subst e;exact⟨v,rfl,h1⟩
  |x::ds,vs,i+1,d,h,e=>by obtain⟨v,r,rfl,h1,h2⟩:=aE.mp h;obtain⟨w,e1,e2⟩:=AW (i:=i) h2 (by simpa using e);exact⟨w,by simpa using e1,e2⟩
theorem lX:∀{ds:List D} {vs:List V} {i:Nat} {v:V},cc K F ds vs→vs[i]?=some v→∃d,ds[i]?=some d∧Den K F d v
  |[],_,_,_,h,e=>by rw[bq.mp h] at e;simp at e
  |x::ds,vs,0,v,h,e=>by obtain⟨w,r,rfl,h1,h2⟩:=aE.mp h;simp at e;subst e;exact⟨x,rfl,h1⟩
  |x::ds,vs,i+1,v,h,e=>by obtain⟨w,r,rfl,h1,h2⟩:=aE.mp h;obtain⟨d,e1,e2⟩:=lX (i:=i) h2 (by simpa using e);exact⟨d,by simpa using e1,e2⟩
theorem nT:∀{ds es:List D} {vs ws:List V},cc K F ds vs→cc K F es ws→cc K F (ds++es) (vs++ws)
  |[],es,vs,ws,h,h'=>by rw[bq.mp h];exact h'
  |x::ds,es,vs,ws,h,h'=>by obtain⟨v,r,rfl,h1,h2⟩:=aE.mp h;exact aE.mpr ⟨v,r++ws,rfl,h1,nT h2 h'⟩
theorem vy{d:D}(h:Den K F d v):cc K F [d] [v]:=aE.mpr ⟨v,[],rfl,h,bq.mpr rfl⟩
theorem sP{ds:List D}{vs:List V}{d:D}(h:cc K F ds vs)(h':Den K F d v):cc K F (ds++[d]) (vs++[v]):=nT h (vy h')
theorem yg:∀{ds:List D} {vs:List V} (n:Nat),cc K F ds vs→cc K F (ds.take n) (vs.take n)
  |_,_,0,_=>bq.mpr rfl
  |[],vs,n+1,h=>by rw[bq.mp h];exact bq.mpr rfl
  |x::ds,vs,n+1,h=>by obtain⟨v,r,rfl,h1,h2⟩:=aE.mp h;exact aE.mpr ⟨v,r.take n,rfl,h1,yg n h2⟩
theorem yh:∀{ds:List D} {vs:List V} (n:Nat),cc K F ds vs→cc K F (ds.drop n) (vs.drop n)
  |_,_,0,h=>h
  |[],vs,n+1,h=>by rw[bq.mp h];exact bq.mpr rfl
  |x::ds,vs,n+1,h=>by obtain⟨v,r,rfl,h1,h2⟩:=aE.mp h;exact yh n h2
theorem AX:∀{ds:List D} {vs:List V} {d:D} {v:V} (n:Nat),cc K F ds vs→Den K F d v→cc K F (ds.set n d) (vs.set n v)
  |[],vs,_,_,n,h,_=>by rw[bq.mp h];exact bq.mpr rfl
  |x::ds,vs,d,v,0,h,h'=>by obtain⟨w,r,rfl,h1,h2⟩:=aE.mp h;exact aE.mpr ⟨v,r,rfl,h',h2⟩
  |x::ds,vs,d,v,n+1,h,h'=>by obtain⟨w,r,rfl,h1,h2⟩:=aE.mp h;exact aE.mpr ⟨w,r.set n v,rfl,h1,AX n h2 h'⟩
theorem zj:∀{ds:List D} {vs:List V},cc K F ds vs→cc K F ds.reverse vs.reverse
  |[],vs,h=>by rw[bq.mp h];exact bq.mpr rfl
  |x::ds,vs,h=>by obtain⟨v,r,rfl,h1,h2⟩:=aE.mp h;rw[List.reverse_cons,List.reverse_cons];exact sP (zj h2) h1
theorem jl:∀(ns:bD),cc K F (ns.map D.int) (ns.map V.int)
  |[]=>bq.mpr rfl
  |n::ns=>aE.mpr ⟨_,_,rfl,aO.mpr rfl,jl ns⟩
theorem iu:∀{ns:bD} {vs:List V},cc K F (ns.map D.int) vs→vs=ns.map V.int
  |[],vs,h=>bq.mp h
  |n::ns,vs,h=>by obtain⟨v,r,rfl,h1,h2⟩:=aE.mp h;rw[aO.mp h1,iu h2];rfl
theorem vz{xs:List V}(e:cq F F')(h:j9 K F a xs):j9 K F' a xs:=by
  rcases h with(h|⟨o,h⟩)|h
  ·exact .inl (.inl (e _ _ h))
  ·exact .inl (.inr ⟨o,e _ _ h⟩)
  ·exact .inr h
mutual
theorem bT(s:cq F F'):∀(d:D) (v:V),Den K F d v→Den K F' d v
  |.non,v,h=>bO.mpr (bO.mp h)
  |.bl b,v,h=>bK.mpr (bK.mp h)
  |.int i,v,h=>aO.mpr (aO.mp h)
  |.str x,v,h=>cj.mpr (cj.mp h)
  |.tup ds,v,h=>by obtain⟨a,vs,e,h1,h2⟩:=aR.mp h;exact aR.mpr ⟨a,vs,e,s _ _ h1,bG s ds vs h2⟩
  |.lst ds,v,h=>by obtain⟨a,vs,e,h1,h2⟩:=aU.mp h;exact aU.mpr ⟨a,vs,e,s.seq h1,bG s ds vs h2⟩
  |.obj C,v,h=>by obtain⟨a,dx,e,h1,h2⟩:=eZ.mp h;exact eZ.mpr ⟨a,dx,e,s _ _ h1,h2.mono s⟩
  |.exc C,v,h=>by obtain⟨a,e,h1⟩:=gU.mp h;exact gU.mpr ⟨a,e,s _ _ h1⟩
theorem bG(s:cq F F'):∀(ds:List D) (vs:List V),cc K F ds vs→cc K F' ds vs
  |[],vs,h=>bq.mpr (bq.mp h)
  |d::ds,vs,h=>by obtain⟨v,r,e,h1,h2⟩:=aE.mp h;exact aE.mpr ⟨v,r,e,bT s d v h1,bG s ds r h2⟩
end
def Lj:HO→Bool
  |.tup _=>true
  |_=>false
mutual
theorem Ey(t:∀a o,H a=some o→Lj o=true→F a=some o):∀(d:D) (v:V),d.xm=true→Den K H d v→Den K F d v
  |.non,v,_,h=>bO.mpr (bO.mp h)
  |.bl b,v,_,h=>bK.mpr (bK.mp h)
  |.int i,v,_,h=>aO.mpr (aO.mp h)
  |.str x,v,_,h=>cj.mpr (cj.mp h)
  |.tup ds,v,i,h=>by obtain⟨a,vs,e,h1,h2⟩:=aR.mp h;exact aR.mpr ⟨a,vs,e,t _ _ h1 rfl,vA t ds vs (by rw[D.xm] at i;exact i) h2⟩
  |.lst ds,v,i,h=>by rw[D.xm] at i;cases i
  |.obj C,v,i,h=>by rw[D.xm] at i;cases i
  |.exc C,v,i,h=>by rw[D.xm] at i;cases i
theorem vA(t:∀a o,H a=some o→Lj o=true→F a=some o):∀(ds:List D) (vs:List V),D.CN ds=true→cc K H ds vs→cc K F ds vs
  |[],vs,_,h=>bq.mpr (bq.mp h)
  |d::ds,vs,i,h=>by obtain⟨v,r,e,h1,h2⟩:=aE.mp h;rw[D.CN,qF] at i;exact aE.mpr ⟨v,r,e,Ey t d v i.1 h1,vA t ds r i.2 h2⟩
end
theorem vC:∀(ds:List D),D.CN ds=ds.all D.xm
  |[]=>by rw[D.CN];rfl
  |d::ds=>by rw[D.CN,pX,vC ds]
theorem qT(ds:List D):(D.tup ds).xm=ds.all D.xm:=by rw[D.xm,vC]
theorem oQ(i:Int):(D.int i).xm=true:=by rw[D.xm]<;>intros<;>simp_all
theorem IV(ns:bD):(ns.map D.int).all D.xm=true:=by rw[List.all_eq_true];intro d hd;obtain⟨n,_,rfl⟩:=lR.mp hd;exact oQ n
end
def pR:HO→Prop
  |.lst xs=>xs.length≤sizeLine
  |.tup xs=>xs.length≤sizeLine
  |.dT aW=>aW.length≤sizeLine
  |.dK aW=>aW.length≤sizeLine
  |.pM _ u=>pR u
  |_=>True
structure Base (F H:Hp):Prop where
  sub:cq F H
  tup:∀a o,H a=some o→Lj o=true→F a=some o
  AY:∀a o,H a=some o→pR o
structure bu (F H F' H':Hp):Prop where
  base:Base F' H'
  g9:cq F F'
  ent:cq H H'
  new:∀a o,F' a=some o→F a=some o∨H a=none∨Lj o=true
theorem bu.refl(b:Base F H):bu F H F H:=⟨b,cq.refl _,cq.refl _,fun _ _ h=>.inl h⟩
theorem bu.trans{F1 H1 F2 H2:Hp}(a:bu F H F1 H1)(b:bu F1 H1 F2 H2):bu F H F2 H2 :=
  ⟨b.base,a.g9.trans b.g9,a.ent.trans b.ent,fun x o h=>by
    rcases b.new x o h with h|h|h
    ·exact a.new x o h
    ·exact .inr (.inl (a.ent.free h))
    ·exact .inr (.inr h)⟩
theorem bu.put(b:Base F H){p:Addr}(hp:H p=none)(o:HO)(ho:pR o):bu F H (upd F p o) (upd H p o) where
  base:={
    sub:=fun a u h=>by
      by_cases e:a=p
      ·subst e;rw[aI] at h;rw[aI];exact h
      ·rw[ay e] at h;rw[ay e];exact b.sub a u h
    tup:=fun a u h t=>by
      by_cases e:a=p
      ·subst e;rw[aI] at h;rw[aI];exact h
      ·rw[ay e] at h;rw[ay e];exact b.tup a u h t
    AY:=fun a u h=>by
      by_cases e:a=p
      ·subst e;rw[aI] at h;cases h;exact ho
      ·rw[ay e] at h;exact b.AY a u h }
  g9:=fq (b.sub.free hp) o
  ent:=fq hp o
  new:=fun a u h=>by
    by_cases e:a=p
    ·subst e;exact .inr (.inl hp)
    ·rw[ay e] at h;exact .inl h
theorem bu.own(b:Base F H){p:Addr}(hp:H p=none)(o:HO)(ho:pR o)(ht:Lj o=false):bu F H F (upd H p o) where
  base:={
    sub:=fun a u h=>by rw[ay (bp (b.sub a u h) hp)];exact b.sub a u h
    tup:=fun a u h t=>by
      by_cases e:a=p
      ·subst e;rw[aI] at h;cases h;rw[ht] at t;cases t
      ·rw[ay e] at h;exact b.tup a u h t
    AY:=fun a u h=>by
      by_cases e:a=p
      ·subst e;rw[aI] at h;cases h;exact ho
      ·rw[ay e] at h;exact b.AY a u h }
  g9:=cq.refl _
  ent:=fq hp o
  new:=fun a u h=>.inl h
theorem bu.share(b:Base F H){F0 H0:Hp}(g:bu F0 H0 F H){p:Addr}(hp:H p=some o)(h0:H0 p=none):bu F0 H0 (upd F p o) H where
  base:={
    sub:=fun a u h=>by
      by_cases e:a=p
      ·subst e;rw[aI] at h;cases h;exact hp
      ·rw[ay e] at h;exact b.sub a u h
    tup:=fun a u h t=>by
      by_cases e:a=p
      ·subst e;rw[aI];rw[hp] at h;exact h
      ·rw[ay e];exact b.tup a u h t
    AY:=b.AY }
  g9:=fun a u h=>by
    by_cases e:a=p
    ·subst e;rw[aI];rw[b.sub a u (g.g9 a u h)] at hp;exact hp.symm
    ·rw[ay e];exact g.g9 a u h
  ent:=g.ent
  new:=fun a u h=>by
    by_cases e:a=p
    ·subst e;exact .inr (.inl h0)
    ·rw[ay e] at h;exact g.new a u h
theorem bu.write{F0 H0:Hp}(g:bu F0 H0 F H){p:Addr}(h0:H0 p=none)(hF:F p=none)(ho:pR o)(ht:Lj o=false):bu F0 H0 F (upd H p o) where
  base:={
    sub:=fun a u h=>by have e:a≠p:=bp h hF;rw[ay e];exact g.base.sub a u h
    tup:=fun a u h t=>by
      by_cases e:a=p
      ·subst e;rw[aI] at h;cases h;rw[ht] at t;cases t
      ·rw[ay e] at h;exact g.base.tup a u h t
    AY:=fun a u h=>by
      by_cases e:a=p
      ·subst e;rw[aI] at h;cases h;exact ho
      ·rw[ay e] at h;exact g.base.AY a u h }
  g9:=g.g9
  ent:=fun a u h=>by rw[ay (bp h h0)];exact g.ent a u h
  new:=g.new
end DL
variable {g:DL.D→DL.D→Option DL.D} {d:DL.D} {ds:List DL.D}
namespace DL
open PySem PySem.Spec L2
open PyProof.Rows hiding St
inductive Slot where
  |sh (d:D)|br (d:D)|ol (ds:List D)|ot (aW:List (List Key×D))|ft (aW:List (List Key×D))|ok (aW:List (Key×D))|fk (aW:List (Key×D))|pr (ds rest:List D)|pn (a:Addr) (d:D)
abbrev cD:=List (Option Slot)
def Slot.dir:Slot→Bool
  |.ol _=>true
  |.ot _=>true
  |.ok _=>true
  |_=>false
def Slot.own:Slot→Bool
  |.pr _ _=>true
  |s=>s.dir
theorem Slot.zk{s:Slot}(h:s.dir=true):s.own=true:=by cases s<;>first|rfl|cases h
structure Zc where
  F₀:Hp
  H₀:Hp
  E:Addr→Hp→Prop
def jg{κ:Type}(K:PySem.W.Frag)(F:Hp):List (κ×D)→List (κ×V)→Prop:=Paired fun p q=>p.1=q.1∧Den K F p.2 q.2
theorem jg.mono{κ:Type}{K:PySem.W.Frag}(s:cq F F'){aW:List (κ×D)}{ws:List (κ×V)}(h:jg K F aW ws):jg K F' aW ws:=Paired.HF h fun _ _ q=>⟨q.1,bT s _ _ q.2⟩
def uC(K:PySem.W.Frag)(F:Hp):Slot→HO→Prop
  |.ol ds,o=>∃vs,o=.lst vs∧cc K F ds vs
  |.ot aW,o=>∃ws,o=.dT ws∧jg K F aW ws
  |.ok aW,o=>∃ws,o=.dK ws∧jg K F aW ws
  |.pr ds _,o=>∃vs,o=.lst vs∧cc K F ds vs
  |_,_=>False
theorem uC.P9{K:PySem.W.Frag}{sl:Slot}(h:uC K F sl o):Lj o=false:=by
  cases sl with
  |ol _=>obtain⟨_,rfl,_⟩:=h;rfl
  |ot _=>obtain⟨_,rfl,_⟩:=h;rfl
  |ok _=>obtain⟨_,rfl,_⟩:=h;rfl
  |pr _ _=>obtain⟨_,rfl,_⟩:=h;rfl
  |_=>exact h.elim
theorem uC.own{K:PySem.W.Frag}{sl:Slot}(h:uC K F sl o):sl.own=true:=by
  cases sl with
  |ol _=>rfl
  |ot _=>rfl
  |ok _=>rfl
  |pr _ _=>rfl
  |_=>exact h.elim
theorem uC.mono{K:PySem.W.Frag}(s:cq F F'){sl:Slot}(h:uC K F sl o):uC K F' sl o:=by
  cases sl with
  |ol _=>obtain⟨vs,e,q⟩:=h;exact⟨vs,e,bG s _ _ q⟩
  |ot _=>obtain⟨vs,e,q⟩:=h;exact⟨vs,e,q.mono s⟩
  |ok _=>obtain⟨vs,e,q⟩:=h;exact⟨vs,e,q.mono s⟩
  |pr _ _=>obtain⟨vs,e,q⟩:=h;exact⟨vs,e,bG s _ _ q⟩
  |_=>exact h.elim
def dY(K:PySem.W.Frag)(F:Hp)(v:V)(sl:Slot)(p:Addr):Prop :=
  match sl with
  |.pr _ rest=>∃a ws,v=.ref a∧F a=some (.tup (.ref p::ws))∧cc K F rest ws
  |_=>v=.ref p
theorem dY.mono{K:PySem.W.Frag}(s:cq F F'){sl:Slot}{p:Addr}(h:dY K F v sl p):dY K F' v sl p:=by
  cases sl with
  |pr ds rest=>obtain⟨a,ws,e,h1,h2⟩:=h;exact⟨a,ws,e,s _ _ h1,bG s _ _ h2⟩
  |_=>exact h
theorem dY.back{K:PySem.W.Frag}(s:cq F F'){sl sl':Slot}{p q:Addr}(hd:sl.dir=sl'.dir)(ho:sl.own=true)(An:sl'.own=true)(h:dY K F v sl p)(h':dY K F' v sl' q):q=p:=by
  cases hc:sl.dir with
  |true =>
   have e1:v=.ref p:=by cases sl<;>first|exact h|cases hc
   have e2:v=.ref q:=by rw[hc] at hd;cases sl'<;>first|exact h'|cases hd
   rw[e1] at e2;cases e2;rfl
  |false =>
   cases sl with
   |pr ds rest =>
    cases sl' with
    |pr p8 N2=>obtain⟨a,ws,e,h1,_⟩:=h;obtain⟨a',ws',e',N3,_⟩:=h';rw[e] at e';cases e';rw[s _ _ h1] at N3;cases N3;rfl
    |sh _=>cases An
    |br _=>cases An
    |ft _=>cases An
    |fk _=>cases An
    |pn _ _=>cases An
    |_=>cases hd
   |sh _=>cases ho
   |br _=>cases ho
   |ft _=>cases ho
   |fk _=>cases ho
   |pn _ _=>cases ho
   |_=>cases hc
def iw(K:PySem.W.Frag)(z:Zc)(F H:Hp)(v:V)(sl:Slot):Prop :=
  match sl with
  |.sh d=>Den K F d v
  |.br d=>Den K z.H₀ d v
  |.ft aW=>∃p ob ws,v=.ref p∧F p=some (.pM ob (.dT ws))∧jg K F aW ws
  |.fk aW=>∃p ob ws,v=.ref p∧F p=some (.pM ob (.dK ws))∧jg K F aW ws
  |.pn a d=>v=.ref a∧Den K z.H₀ d v
  |sl=>∃p o,dY K F v sl p∧z.H₀ p=none∧F p=none∧H p=some o∧uC K F sl o
theorem jF{K:PySem.W.Frag}{z:Zc}{sl:Slot}(h:sl.own=true):iw K z F H v sl↔∃p o,dY K F v sl p∧z.H₀ p=none∧F p=none∧H p=some o∧uC K F sl o:=by
  cases sl with
  |ol _=>exact Iff.rfl
  |ot _=>exact Iff.rfl
  |ok _=>exact Iff.rfl
  |pr _ _=>exact Iff.rfl
  |_=>cases h
theorem sQ{K:PySem.W.Frag}{z:Zc}{sl:Slot}(h:sl.own=false)(s:cq F F')(q:iw K z F H v sl):iw K z F' H' v sl:=by
  cases sl with
  |sh d=>exact bT s d v q
  |br d=>exact q
  |ft aW=>obtain⟨p,ob,ws,e,h1,h2⟩:=q;exact⟨p,ob,ws,e,s _ _ h1,h2.mono s⟩
  |fk aW=>obtain⟨p,ob,ws,e,h1,h2⟩:=q;exact⟨p,ob,ws,e,s _ _ h1,h2.mono s⟩
  |pn a d=>exact q
  |_=>cases h
theorem Gr{K:PySem.W.Frag}(g:bu F H F' H'){p:Addr}(hF:F p=none)(hH:H p=some o)(ht:Lj o=false):F' p=none:=by
  cases e:F' p with
  |none=>rfl
  |some u =>
   have e2:=g.base.sub p u e;rw[g.ent p o hH] at e2;cases e2;rcases g.new p _ e with q|q|q
   ·rw[hF] at q;cases q
   ·rw[hH] at q;cases q
   ·rw[ht] at q;cases q
theorem iw.grow{K:PySem.W.Frag}{z:Zc}(g:bu F H F' H'){sl:Slot}(h:iw K z F H v sl):iw K z F' H' v sl:=by
  cases ho:sl.own with
  |true=>rw[jF ho] at h⊢;obtain⟨p,o,e,h0,hF,hH,q⟩:=h;exact⟨p,o,e.mono g.g9,h0,Gr (K:=K) g hF hH q.P9,g.ent _ _ hH,q.mono g.g9⟩
  |false=>exact sQ ho g.g9 h
structure Rel (K:PySem.W.Frag) (z:Zc) (F H:Hp) (σ:St) (η:cD):Prop where
  mem:bu z.F₀ z.H₀ F H
  len:σ.length=η.length
  at_:∀(i:Nat) sl,η[i]?=some (some sl)→∃v,σ[i]?=some (some v)∧iw K z F H v sl
  apart:∀(i j:Nat) si sj vi vj p,i≠j→η[i]?=some (some si)→η[j]?=some (some sj)→si.own=true→sj.own=true→σ[i]?=some (some vi)→σ[j]?=some (some vj)→dY K F vi si p→¬ dY K F vj sj p
section
variable {K:PySem.W.Frag} {z:Zc} {F H F' H':Hp} {σ:St} {η:cD}
theorem Rel.base(r:Rel K z F H σ η):Base F H:=r.mem.base
theorem Rel.S3(r:Rel K z F H σ η)(s:cq F F'){sl:Slot}{p:Addr}(hi:η[i]?=some (some sl))(ho:sl.own=true)(hv:σ[i]?=some (some v))(h:dY K F' v sl p):dY K F v sl p∧∃o,H p=some o∧F p=none∧Lj o=false:=by obtain⟨v',EA,hs⟩:=r.at_ i sl hi;rw[hv] at EA;cases EA;obtain⟨p0,o,e,h0,hF,hH,q⟩:=(jF ho).mp hs;have e2:=e.back s rfl ho ho h;subst e2;exact⟨e,o,hH,hF,q.P9⟩
theorem Rel.grow(r:Rel K z F H σ η)(g:bu F H F' H'):Rel K z F' H' σ η :=
  ⟨r.mem.trans g,r.len,fun i sl e=>by obtain⟨v,h1,h2⟩:=r.at_ i sl e;exact⟨v,h1,h2.grow g⟩,fun i j si sj vi vj p vq ei ej oi oj hi hj h1 h2 =>
    r.apart i j si sj vi vj p vq ei ej oi oj hi hj (r.S3 g.g9 ei oi hi h1).1 (r.S3 g.g9 ej oj hj h2).1⟩
theorem Rel.idx(r:Rel K z F H σ η)(h:i<η.length):i<σ.length:=by have:=r.len;omega
theorem nU{α:Type}{l:List (Option α)}{j:Nat}{x y:α}(h:(l.set i (some x))[j]?=some (some y)):(i=j∧i<l.length∧x=y)∨(i≠j∧l[j]?=some (some y)):=by
  by_cases e:i=j
  · subst e;by_cases hi:i<l.length
    ·rw[Ap hi] at h;cases h;exact .inl ⟨rfl,hi,rfl⟩
    ·rw[List.getElem?_eq_none (by rw[List.length_set];omega)] at h;cases h
  ·rw[xo e] at h;exact .inr ⟨e,h⟩
theorem Rel.IW(r:Rel K z F H σ η)(i:Nat){sl:Slot}(h:iw K z F H v sl)(hn:sl.own=true→∀p,dY K F v sl p→∀(j:Nat) s w,η[j]?=some (some s)→s.own=true→σ[j]?=some (some w)→¬ dY K F w s p):Rel K z F H (σ.set i (some v)) (η.set i (some sl)) where
  mem:=r.mem
  len:=by simp[r.len]
  at_:=fun j s e=>by
    rcases nU e with⟨rfl,hi,rfl⟩|⟨hj,e⟩
    ·exact⟨v,by rw[Ap (r.idx hi)],h⟩
    ·rw[xo hj];exact r.at_ j s e
  apart:=fun j k sj sk vj vk p Lh ej ek oj ok hj hk h1 h2=>by
    rcases nU ej with⟨e1,hi,e2⟩|⟨nj,ej⟩
    · subst e1 e2;rcases nU ek with⟨e3,_,_⟩|⟨nk,ek⟩
      ·exact Lh e3
      ·rw[Ap (r.idx hi)] at hj;cases hj;rw[xo nk] at hk;exact hn oj p h1 k sk vk ek ok hk h2
    · rw[xo nj] at hj;rcases nU ek with⟨e1,hi,e2⟩|⟨nk,ek⟩
      ·subst e1 e2;rw[Ap (r.idx hi)] at hk;cases hk;exact hn ok p h2 j sj vj ej oj hj h1
      ·rw[xo nk] at hk;exact r.apart j k sj sk vj vk p Lh ej ek oj ok hj hk h1 h2
theorem Rel.set(r:Rel K z F H σ η)(i:Nat){sl:Slot}(ho:sl.own=false)(h:iw K z F H v sl):Rel K z F H (σ.set i (some v)) (η.set i (some sl)) :=
  r.IW i h (fun z=>by rw[ho] at z;cases z)
theorem Rel.Qa(r:Rel K z F H σ η)(g:bu F H F' H'){p:Addr}(hp:H p=none):∀(j:Nat) s w,η[j]?=some (some s)→s.own=true→σ[j]?=some (some w)→¬ dY K F' w s p:=fun j s w e o hw h=>by obtain⟨_,o',hH,_⟩:=r.S3 g.g9 e o hw h;rw[hp] at hH;cases hH
theorem Rel.IX(r:Rel K z F H σ η)(g:bu F H F' H')(i:Nat){p:Addr}{sl:Slot}(h:iw K z F' H' v sl)(ha:dY K F' v sl p)(hp:H p=none):Rel K z F' H' (σ.set i (some v)) (η.set i (some sl)) :=
  (r.grow g).IW i h fun ho q hq=>by have e:q=p:=ha.back (cq.refl _) rfl ho ho hq;subst e;exact r.Qa g hp
theorem Rel.writeAt(r:Rel K z F H σ η){p:Addr}{sl sl':Slot}{o':HO}(hi:η[i]?=some (some sl))(ho:sl.own=true)(hd:sl.dir=sl'.dir)(hv:σ[i]?=some (some v))(hp:dY K F v sl p)(xC:dY K F v sl' p)(hq:uC K F sl' o')(hl:pR o'):Rel K z F (upd H p o') σ (η.set i (some sl')):=by
  obtain⟨v',EA,hs⟩:=r.at_ i sl hi;rw[hv] at EA;cases EA;obtain⟨p',o,e,h0,hF,hH,_⟩:=(jF ho).mp hs;have e2:=e.back (cq.refl _) rfl ho ho hp;subst e2;have An:sl'.own=true:=hq.own;refine⟨r.mem.write h0 hF hl hq.P9,by simp[r.len],fun j s e=>?_,fun j k sj sk vj vk q Lh ej ek oj ok hj hk h1 h2=>?_⟩
  · rcases nU e with⟨rfl,nF,rfl⟩|⟨nj,S4⟩
    ·exact⟨_,hv,(jF An).mpr ⟨p,o',xC,h0,hF,aI,hq⟩⟩
    · obtain⟨w,hw,II⟩:=r.at_ j s S4;refine⟨w,hw,?_⟩;cases Qb:s.own with
      |false=>exact sQ Qb (cq.refl _) II
      |true =>
       rw[jF Qb] at II⊢;obtain⟨p2,o2,e2,a0,aF,aH,aq⟩:=II;have mz:p2≠p:=fun z=>by subst z;exact r.apart i j sl s v w p2 nj hi S4 ho Qb hv hw hp e2
       exact⟨p2,o2,e2,a0,aF,by rw[ay mz];exact aH,aq⟩
  · have key:∀(j:Nat) sj vj q,(η.set i (some sl'))[j]?=some (some sj)→sj.own=true→σ[j]?=some (some vj)→dY K F vj sj q→∃s,η[j]?=some (some s)∧s.own=true∧dY K F vj s q:=fun j sj vj q ej oj hj Vh=>by
      rcases nU ej with⟨e1,nF,e2⟩|⟨nj,ej⟩
      ·subst e1 e2;rw[hv] at hj;cases hj;have e3:q=p:=hp.back (cq.refl _) hd ho An Vh;subst e3;exact⟨sl,hi,ho,hp⟩
      ·exact⟨sj,ej,oj,Vh⟩
    obtain⟨s1,e1,o1,q1⟩:=key j sj vj q ej oj hj h1;obtain⟨s2,e2,o2,q2⟩:=key k sk vk q ek ok hk h2;exact r.apart j k s1 s2 vj vk q Lh e1 e2 o1 o2 hj hk q1 q2
theorem qU{sl:Slot}{p:Addr}(h:sl.dir=true):dY K F v sl p↔v=.ref p:=by cases sl<;>first|exact Iff.rfl|cases h
theorem Rel.write(r:Rel K z F H σ η){p:Addr}{sl sl':Slot}{o':HO}(hi:η[i]?=some (some sl))(ho:sl.dir=true)(hp:σ[i]?=some (some (.ref p)))(hq:uC K F sl' o')(hl:pR o')(Nz:sl'.dir=true:=by rfl):Rel K z F (upd H p o') σ (η.set i (some sl')) :=
  r.writeAt hi (Slot.zk ho) (ho.trans Nz.symm) hp ((qU ho).mpr rfl) ((qU Nz).mpr rfl) hq hl
theorem Rel.L8(r:Rel K z F H σ η){p:Addr}{sl sl':Slot}{o':HO}(hi:η[i]?=some (some sl))(ho:sl.dir=true)(hp:σ[i]?=some (some (.ref p)))(hl:pR o')(ht:Lj o'=false)(An:sl'.own=false)(II:iw K z (upd F p o') (upd H p o') (.ref p) sl'):Rel K z (upd F p o') (upd H p o') σ (η.set i (some sl'))∧cq F (upd F p o'):=by
  obtain⟨v,hv,hs⟩:=r.at_ i sl hi;rw[hp] at hv;cases hv;have L9:=Slot.zk ho;obtain⟨p',o,e,h0,hF,hH,_⟩:=(jF L9).mp hs;have ep:dY K F (.ref p) sl p:=(qU ho).mpr rfl;have e2:=e.back (cq.refl _) rfl L9 L9 ep;subst e2;have EB:cq F (upd F p o'):=fq hF _;have g1:=r.mem.write h0 hF hl ht;refine⟨⟨g1.share g1.base aI h0,by simp[r.len],fun j s e=>?_,fun j k sj sk vj vk q Lh ej ek oj ok hj hk h1 h2=>?_⟩,EB⟩
  · rcases nU e with⟨rfl,nF,rfl⟩|⟨nj,S4⟩
    ·exact⟨_,hp,II⟩
    · obtain⟨w,EA,hq⟩:=r.at_ j s S4;refine⟨w,EA,?_⟩;cases Qb:s.own with
      |false=>exact sQ Qb EB hq
      |true =>
       rw[jF Qb] at hq⊢;obtain⟨p2,o2,e2,a0,aF,aH,aq⟩:=hq;have mz:p2≠p:=fun z=>by subst z;exact r.apart i j _ s _ w p2 nj hi S4 L9 Qb hp EA ep e2
       exact⟨p2,o2,e2.mono EB,a0,by rw[ay mz];exact aF,by rw[ay mz];exact aH,aq.mono EB⟩
  · have key:∀(j:Nat) sj,(η.set i (some sl'))[j]?=some (some sj)→sj.own=true→η[j]?=some (some sj):=fun j sj ej oj=>by
      rcases nU ej with⟨e1,nF,e2⟩|⟨nj,ej⟩
      ·subst e2;rw[An] at oj;cases oj
      ·exact ej
    have ej':=key j sj ej oj;have ek':=key k sk ek ok;exact r.apart j k sj sk vj vk q Lh ej' ek' oj ok hj hk (r.S3 EB ej' oj hj h1).1 (r.S3 EB ek' ok hk h2).1
theorem Rel.ownAt(r:Rel K z F H σ η){sl:Slot}(hi:η[i]?=some (some sl))(ho:sl.dir=true):∃p o,σ[i]?=some (some (.ref p))∧z.H₀ p=none∧F p=none∧H p=some o∧uC K F sl o:=by obtain⟨v,hv,hs⟩:=r.at_ i sl hi;obtain⟨p,o,e,a⟩:=(jF (Slot.zk ho)).mp hs;have e2:=(qU ho).mp e;subst e2;exact⟨p,o,hv,a⟩
def ky(nt:Nat)(fi:List Nat)(η:cD):cD:=List.replicate nt none++fi.map fun j=>(η[j]?).getD none
theorem qV{α:Type}{nt:Nat}{η:List (Option α)}{s:α}(h:(List.replicate nt none++fi.map fun j=>(η[j]?).getD none)[i]?=some (some s)):∃j,nt≤i∧fi[i-nt]?=some j∧η[j]?=some (some s):=by
  by_cases hi:i<nt
  ·rw[List.getElem?_append_left (by simpa using hi)] at h;rw[List.getElem?_replicate] at h;split at h<;>cases h
  · rw[FJ (by simp;omega),List.length_replicate,nI] at h;cases e:fi[i-nt]? with
    |none=>rw[e] at h;cases h
    |some j =>
     rw[e] at h;refine⟨j,by omega,rfl,?_⟩;have h':(η[j]?).getD none=some s:=kj h;cases q:η[j]? with
     |none=>rw[q] at h';cases h'
     |some o=>rw[q] at h';rw[show o=some s from h']
theorem Qc{α:Type}{nt:Nat}{η:List (Option α)}{j:Nat}{s:α}(hi:nt≤i)(hj:fi[i-nt]?=some j)(h:η[j]?=some (some s)):(List.replicate nt none++fi.map fun j=>(η[j]?).getD none)[i]?=some (some s):=by rw[FJ (by simpa using hi),List.length_replicate,nI,hj];show some ((η[j]?).getD none)=_;rw[h];rfl
theorem Rel.block(r:Rel K z F H σ η)(nt:Nat)(hf:fi.Nodup):Rel K z F H (nQ nt fi σ) (ky nt fi η) where
  mem:=r.mem
  len:=by simp[nQ,ky]
  at_:=fun i sl e=>by obtain⟨j,hi,hj,h⟩:=qV e;obtain⟨v,hv,hs⟩:=r.at_ j sl h;exact⟨v,Qc hi hj hv,hs⟩
  apart:=fun i j si sj vi vj p vq ei ej oi oj h1 h2 q1 q2=>by obtain⟨a,ha,NT,ha2⟩:=qV ei;obtain⟨b,hb,LK,IY⟩:=qV ej;obtain⟨a1,ha1,S5,N3⟩:=qV h1;obtain⟨b1,hb1,S6,La⟩:=qV h2;rw[NT] at S5;cases S5;rw[LK] at S6;cases S6;refine r.apart a b si sj vi vj p (fun e=>vq ?_) ha2 IY oi oj N3 La q1 q2;subst e;have q:=(List.getElem?_inj (u0.mp NT).1 hf).mp (NT.trans LK.symm);omega
end
inductive Out where
  |nx (η:cD)|rt (s:Slot)|bk (η:cD)|ct (η:cD)
abbrev EF:=cD→Option D
abbrev LF:=cD→Option (List D)
abbrev TF:=cD→Option Bool
abbrev SF:=cD→Option Out
abbrev BF:=D→cD→Option cD
def vE(K:PySem.W.Frag)(z:Zc)(f:EF):TE:=fun σ H Q=>∃η F d,Rel K z F H σ η∧f η=some d∧∀v H' F',bu F H F' H'→Den K F' d v→Q v H'
def vB(K:PySem.W.Frag)(z:Zc)(f:EF):TE:=fun σ H Q=>∃η F d,Rel K z F H σ η∧f η=some d∧∀v H' F',bu F H F' H'→Den K H' d v→Q v H'
def vO(K:PySem.W.Frag)(z:Zc)(f:LF):TE:=fun σ H Q=>∃η F ds,Rel K z F H σ η∧f η=some ds∧∀p vs H' F',bu F H F' H'→H p=none→F' p=none→H' p=some (.lst vs)→cc K F' ds vs→Q (.ref p) H'
def vT(K:PySem.W.Frag)(z:Zc)(f:TF):TT:=fun σ H Q=>∃η F b,Rel K z F H σ η∧f η=some b∧∀H' F',bu F H F' H'→Q b H'
def ix(K:PySem.W.Frag)(F H:Hp):List Bool→List D→List V→Prop
  |[],[],[]=>True
  |m::ms,d::ds,v::vs=>(match m with|true=>Den K F d v|false=>Den K H d v)∧ix K F H ms ds vs
  |_,_,_=>False
def vM(K:PySem.W.Frag)(z:Zc)(ms:List Bool)(f:LF):TA:=fun σ H Q=>∃η F ds,Rel K z F H σ η∧f η=some ds∧∀vs H' F',bu F H F' H'→ix K F' H' ms ds vs→Q vs H'
def yi(K:PySem.W.Frag)(F H:Hp)(r:Slot)(Q:VK):Prop :=
  match r with
  |.sh d=>∀v H' F',bu F H F' H'→Den K F' d v→Q v H'
  |.ol ds=>∀p vs H' F',bu F H F' H'→H p=none→F' p=none→H' p=some (.lst vs)→cc K F' ds vs→Q (.ref p) H'
  |.pr ds rest=>∀a p vs ws H' F',bu F H F' H'→H p=none→F' p=none→H' p=some (.lst vs)→cc K F' ds vs→F' a=some (.tup (.ref p::ws))→cc K F' rest ws→Q (.ref a) H'
  |.ot aW=>∀p ws H' F',bu F H F' H'→H p=none→F' p=none→H' p=some (.dT ws)→jg K F' aW ws→Q (.ref p) H'
  |_=>False
def Gs(K:PySem.W.Frag)(z:Zc)(r:Slot)(Q:VK):Prop :=
  match r with
  |.pn C _=>∀H' F',bu z.F₀ z.H₀ F' H'→z.E C H'
  |r=>yi K z.F₀ z.H₀ r Q
theorem Gs.of{K:PySem.W.Frag}{z:Zc}{r:Slot}{Q:VK}(h:yi K z.F₀ z.H₀ r Q):Gs K z r Q:=by cases r<;>first|exact h|exact False.elim h
def zo(K:PySem.W.Frag)(z:Zc)(F:Hp)(o:Out)(D:Ends):Prop :=
  match o with
  |.nx η'=>∀σ' H' F',Rel K z F' H' σ' η'→cq F F'→D.nx σ' H'
  |.bk η'=>∀σ' H' F',Rel K z F' H' σ' η'→cq F F'→D.bk σ' H'
  |.ct η'=>∀σ' H' F',Rel K z F' H' σ' η'→cq F F'→D.ct σ' H'
  |.rt r=>Gs K z r D.rt
def vS(K:PySem.W.Frag)(z:Zc)(g:SF):TS:=fun D σ H=>∃η F o,Rel K z F H σ η∧g η=some o∧zo K z F o D
def DE(X:Cx)(z:Zc)(e:Expr)(f:EF):Prop:=PE X e (vE X.K z f)
def DB(X:Cx)(z:Zc)(e:Expr)(f:EF):Prop:=PE X e (vB X.K z f)
def DO(X:Cx)(z:Zc)(e:Expr)(f:LF):Prop:=PE X e (vO X.K z f)
def DT(X:Cx)(z:Zc)(e:Expr)(f:TF):Prop:=PT X e (vT X.K z f)
def DW(X:Cx)(z:Zc)(e:Expr)(f:TF):Prop:=PW X e (vT X.K z f)
def DM(X:Cx)(z:Zc)(es:List Expr)(ms:List Bool)(f:LF):Prop:=PA X es (vM X.K z ms f)
def DS(X:Cx)(z:Zc)(st:Stmt)(g:SF):Prop:=PS X st (vS X.K z g)
def Gu(X:Cx)(z:Zc)(sts:List Stmt)(g:SF):Prop:=xZ X sts (vS X.K z g)
theorem PE.weak{t t':TE}(h:PE X e t)(k:∀σ H Q,t' σ H Q→t σ H Q):PE X e t':=fun pins s σ H Q I q=>h pins s σ H Q I (k σ H Q q)
theorem PT.weak{t t':TT}(h:PT X e t)(k:∀σ H Q,t' σ H Q→t σ H Q):PT X e t':=fun pins s σ H Q I q=>h pins s σ H Q I (k σ H Q q)
theorem PW.weak{t t':TT}(h:PW X e t)(k:∀σ H Q,t' σ H Q→t σ H Q):PW X e t':=fun wh pins s σ H Q I q=>h wh pins s σ H Q I (k σ H Q q)
theorem PA.weak{e:List Expr}{t t':TA}(h:PA X e t)(k:∀σ H Q,t' σ H Q→t σ H Q):PA X e t':=fun pos pins s σ H Q I q=>h pos pins s σ H Q I (k σ H Q q)
theorem PS.weak{e:Stmt}{t t':TS}(h:PS X e t)(k:∀D σ H,t' D σ H→t D σ H):PS X e t':=fun pins s σ H D I q=>h pins s σ H D I (k D σ H q)
theorem xZ.weak{e:List Stmt}{t t':TS}(h:xZ X e t)(k:∀D σ H,t' D σ H→t D σ H):xZ X e t':=fun pins s σ H D I q=>h pins s σ H D I (k D σ H q)
section
variable {X:Cx} {z:Zc} {e a b:Expr} {f fa fb:EF} {pos:Pos}
theorem DE.bo(h:DE X z e f):DB X z e f:=PE.weak h fun σ H Q ⟨η,F,d,r,e,k⟩=>⟨η,F,d,r,e,fun v H' F' g q=>k v H' F' g (bT g.base.sub d v q)⟩
def eL(f:LF):EF:=fun η=>(f η).map D.lst
theorem DO.sh{f:LF}(h:DO X z e f):DE X z e (eL f):=PE.weak h fun σ H Q ⟨η,F,d,r,e,k⟩=>by
  unfold eL at e;cases q:f η with
  |none=>rw[q] at e;cases e
  |some ds=>rw[q] at e;cases e;refine⟨η,F,ds,r,q,fun p vs H' F' g hp hF hH hd=>?_⟩;have hs:cq F' (upd F' p (.lst vs)):=fq hF _;exact k _ _ _ (g.share g.base hH hp) (aU.mpr ⟨p,vs,rfl,jE.of aI,bG hs _ _ hd⟩)
theorem DO.bo{f:LF}(h:DO X z e f):DB X z e (eL f):=h.sh.bo
def eI(f:EF):EF:=fun η=>(f η).bind fun d=>if d.xm=true then some d else none
def eV(i:Nat):EF:=fun η=>match η[i]? with
  |some (some (.sh d))=>some d
  |some (some (.br d))=>if d.xm=true then some d else none
  |_=>none
def aQ(i:Nat):EF:=fun η=>match η[i]? with
  |some (some (.sh d))=>some d
  |some (some (.br d))=>some d
  |some (some (.ol ds))=>some (.lst ds)
  |some (some (.pr ds rest))=>some (.tup (.lst ds::rest))
  |some (some (.pn _ d))=>some d
  |_=>none
theorem aL(i:Nat)(hN:X.N[i]?=some x:=by rfl)(hv:Am X.env.scope x:=by first|exact Or.inl rfl|exact Or.inr (Or.inl rfl)|exact Or.inr (Or.inr rfl))(hd:(x==("__debug__":Str))=false:=by decide)(ji:(x==("__classdict__":Str))=false:=by decide):DB X z (.Name x pos) (aQ i):=PE.weak (jj hN hv hd ji) fun σ H Q ⟨η,F,d,r,e,k⟩=>by
  unfold aQ at e;split at e
  ·rename_i d' h;cases e;obtain⟨v,hv,hs⟩:=r.at_ i _ h;exact⟨v,hv,k v H F (bu.refl r.base) (bT r.base.sub _ _ hs)⟩
  ·rename_i d' h;cases e;obtain⟨v,hv,hs⟩:=r.at_ i _ h;exact⟨v,hv,k v H F (bu.refl r.base) (bT r.mem.ent _ _ hs)⟩
  ·rename_i ds h;cases e;obtain⟨p,o,hv,h0,hF,hH,vs,rfl,hq⟩:=r.ownAt h rfl;exact⟨_,hv,k _ H F (bu.refl r.base) (aU.mpr ⟨p,vs,rfl,jE.of hH,bG r.base.sub _ _ hq⟩)⟩
  ·rename_i ds rest h;cases e;obtain⟨v,hv,p,o,⟨a,ws,rfl,ha,hr⟩,h0,hF,hH,vs,rfl,hq⟩:=r.at_ i _ h;refine⟨_,hv,k _ H F (bu.refl r.base) (aR.mpr ⟨a,_,rfl,r.base.sub _ _ ha,aE.mpr ⟨_,_,rfl,aU.mpr ⟨p,vs,rfl,jE.of hH,bG r.base.sub _ _ hq⟩,bG r.base.sub _ _ hr⟩⟩)⟩
  ·rename_i a d' h;cases e;obtain⟨v,hv,_,hs⟩:=r.at_ i _ h;exact⟨v,hv,k v H F (bu.refl r.base) (bT r.mem.ent _ _ hs)⟩
  ·cases e
theorem aX(i:Nat)(hN:X.N[i]?=some x:=by rfl)(hv:Am X.env.scope x:=by first|exact Or.inl rfl|exact Or.inr (Or.inl rfl)|exact Or.inr (Or.inr rfl))(hd:(x==("__debug__":Str))=false:=by decide)(ji:(x==("__classdict__":Str))=false:=by decide):DE X z (.Name x pos) (eV i):=PE.weak (jj hN hv hd ji) fun σ H Q ⟨η,F,d,r,e,k⟩=>by
  unfold eV at e;split at e
  ·rename_i d' h;cases e;obtain⟨v,hv,hs⟩:=r.at_ i _ h;exact⟨v,hv,k v H F (bu.refl r.base) hs⟩
  · rename_i d' h;by_cases hi:d'.xm=true
    ·rw[bR hi] at e;cases e;obtain⟨v,hv,hs⟩:=r.at_ i _ h;exact⟨v,hv,k v H F (bu.refl r.base) (Ey r.base.tup _ _ hi (bT r.mem.ent _ _ hs))⟩
    ·rw[bS hi] at e;cases e
  ·cases e
def eC(d:D):EF:=fun _=>some d
theorem au{i j pos}:DE X z (.Constant (.int i) j pos) (eC (.int i)):=PE.weak OL fun σ H Q ⟨η,F,d,r,e,k⟩=>by cases e;exact k _ H F (bu.refl r.base) (aO.mpr rfl)
theorem pS{i j pos}:DE X z (.Constant (.bool i) j pos) (eC (.bl i)):=PE.weak RL fun σ H Q ⟨η,F,d,r,e,k⟩=>by cases e;exact k _ H F (bu.refl r.base) (bK.mpr rfl)
theorem jP{j pos}:DE X z (.Constant .none j pos) (eC .non):=PE.weak OO fun σ H Q ⟨η,F,d,r,e,k⟩=>by cases e;exact k _ H F (bu.refl r.base) (bO.mpr rfl)
theorem kz{x j pos}:DE X z (.Constant (.str x) j pos) (eC (.str x)):=PE.weak OQ fun σ H Q ⟨η,F,d,r,e,k⟩=>by cases e;exact k _ H F (bu.refl r.base) (cj.mpr rfl)
def ai(g:D→D→Option D)(fa fb:EF):EF:=fun η=>(fa η).bind fun x=>(fb η).bind fun y=>g x y
theorem sR{fa fb:EF}{η:cD}(h:ai g fa fb η=some d):∃x y,fa η=some x∧fb η=some y∧g x y=some d:=by unfold ai at h;obtain⟨x,h1,h⟩:=eS.mp h;obtain⟨y,h2,h⟩:=eS.mp h;exact⟨x,y,h1,h2,h⟩
def Hy(K:PySem.W.Frag)(g:D→D→Option D)(r:R2):Prop:=∀(F H:Hp) (x y d:D) (v u:V) (Q:VK),Base F H→g x y=some d→Den K H x v→Den K H y u→(∀w,Den K F d w→Q w H)→r v u H Q
theorem vD{K:PySem.W.Frag}(hg:Hy K g r):∀σ H Q,vE K z (ai g fa fb) σ H Q→R4 r (vB K z fa) (vB K z fb) σ H Q:=fun σ H Q ⟨η,F,d,rl,e,k⟩=>by obtain⟨x,y,h1,h2,h3⟩:=sR e;refine⟨η,F,x,rl,h1,fun v H1 F1 g1 q1=>⟨η,F1,y,rl.grow g1,h2,fun u H2 F2 g2 q2=>?_⟩⟩;exact hg F2 H2 x y d v u Q g2.base h3 (bT g2.ent _ _ q1) q2 fun w q=>k w H2 F2 (g1.trans g2) q
theorem nV{op:Operator}(ho:nK X (binaryOp op) r)(hg:Hy X.K g r)(ha:DB X z a fa)(hb:DB X z b fb):DE X z (.BinOp a op b pos) (ai g fa fb):=PE.weak (NF ho ha hb) (vD hg)
theorem zp(ho:nK X (compareOp op) r)(hg:Hy X.K g r)(ha:DB X z a fa)(hb:DB X z b fb)(hm:behindInMarks op b=false):DE X z (.Compare a [op] [b] pos) (ai g fa fb):=PE.weak (LD ho ha hb hm) (vD hg)
def cg(f:EF):TF:=fun η=>(f η).bind fun d=>match d with|.bl b=>some b|_=>none
theorem qW{f:EF}{η:cD}{b:Bool}(h:cg f η=some b):f η=some (.bl b):=by
  unfold cg at h;obtain⟨d,h1,h2⟩:=eS.mp h;cases d with
  |bl c=>cases h2;exact h1
  |_=>cases h2
theorem dZ(h:DE X z e f)(he:∀whole,isTrue e X.env whole=(do let v ←whole;standAt e.pos;holding [v] (truthy v)):=by intro _;rfl):DT X z e (cg f):=PT.weak (OS h he) fun σ H Q ⟨η,F,b,r,e,k⟩ =>
  ⟨η,F,_,r,qW e,fun v H' F' g q=>⟨b,bK.mp q,k H' F' g⟩⟩
theorem qb(ho:nK X (compareOp op) r)(hg:Hy X.K g r)(ha:DB X z a fa)(hb:DB X z b fb)(hm:behindInMarks op b=false):DT X z (.Compare a [op] [b] pos) (cg (ai g fa fb)) :=
  PT.weak (LG ho ha hb hm) fun σ H Q ⟨η,F,c,r,e,k⟩=>vD hg σ H _ ⟨η,F,_,r,qW e,fun v H' F' g q=>⟨c,bK.mp q,k H' F' g⟩⟩
variable {ta tb:TF} {rest:List Expr}
def jh(t:TF):TF:=fun η=>(t η).map (!·)
def mK(t u:TF):TF:=fun η=>(t η).bind fun c=>if c=true then some true else u η
theorem nW(ha:DT X z a ta):DT X z (.UnaryOp .Not a pos) (jh ta):=PT.weak (OU ha) fun σ H Q ⟨η,F,c,r,e,k⟩=>by unfold jh at e;obtain⟨b,h1,h2⟩:=pv.mp e;subst h2;exact⟨η,F,b,r,h1,k⟩
theorem Ma{K:PySem.W.Frag}:∀σ H Q,vT K z (mK ta tb) σ H Q→tOr (vT K z ta) (vT K z tb) σ H Q:=fun σ H Q ⟨η,F,c,r,e,k⟩=>by
  unfold mK at e;obtain⟨b,h1,h2⟩:=eS.mp e;refine⟨η,F,b,r,h1,fun H1 F1 g1=>?_⟩;cases b with
  |false=>exact⟨η,F1,c,r.grow g1,h2,fun H2 F2 g2=>k H2 F2 (g1.trans g2)⟩
  |true=>have e2:some true=some c:=h2;cases e2;exact k H1 F1 g1
theorem qc(ha:DT X z a ta):DW X z (.BoolOp .Or [a] pos) ta:=pw_or1 ha
theorem vF(ha:DT X z a ta)(hb:DW X z (.BoolOp .Or (b::rest) pos) tb):DW X z (.BoolOp .Or (a::b::rest) pos) (mK ta tb):=PW.weak (pw_or ha hb) Ma
theorem DW.t(h:DW X z e ta):DT X z e ta:=PW.pt h
def uD(fa fb:EF):EF:=fun η=>(cg fa η).bind fun c=>if c=true then fb η else some (.bl false)
def Mb(fa:EF):EF:=fun η=>(cg fa η).map fun c=>.bl (!c)
theorem sS{op}(h:DE X z a fa):DE X z (.BoolOp op [a] pos) fa:=OV h
theorem qd(ha:DE X z a fa)(hb:DE X z (.BoolOp .And (b::rest) pos) fb):DE X z (.BoolOp .And (a::b::rest) pos) (uD fa fb):=PE.weak (OW ha hb) fun σ H Q ⟨η,F,d,r,e,k⟩=>by
  unfold uD at e;obtain⟨c,h1,h2⟩:=eS.mp e;refine⟨η,F,_,r,qW h1,fun v H1 F1 g1 q=>⟨c,bK.mp q,?_⟩⟩;cases c with
  |true=>exact⟨η,F1,d,r.grow g1,h2,fun v H2 F2 g2 q2=>k v H2 F2 (g1.trans g2) q2⟩
  |false=>have e2:some (D.bl false)=some d:=h2;cases e2;exact k _ H1 F1 g1 (bK.mpr rfl)
theorem Qd(ha:DE X z a fa):DE X z (.UnaryOp .Not a pos) (Mb fa):=PE.weak (OX ha) fun σ H Q ⟨η,F,d,r,e,k⟩=>by unfold Mb at e;obtain⟨c,h1,h2⟩:=pv.mp e;subst h2;exact⟨η,F,_,r,qW h1,fun v H1 F1 g1 q=>⟨c,bK.mp q,k _ H1 F1 g1 (bK.mpr rfl)⟩⟩
variable {es:List Expr} {ms:List Bool} {fs:LF}
def ax:LF:=fun _=>some []
def ae(f:EF)(fs:LF):LF:=fun η=>(f η).bind fun d=>(fs η).map (d::·)
theorem vH{f:EF}{fs:LF}{η:cD}{l:List D}(h:ae f fs η=some l):∃d r,f η=some d∧fs η=some r∧l=d::r:=by unfold ae at h;obtain⟨d,h1,h⟩:=eS.mp h;obtain⟨r,h2,h⟩:=pv.mp h;exact⟨d,r,h1,h2,h.symm⟩
theorem az:DM X z [] [] ax:=PA.weak gC fun σ H Q ⟨η,F,ds,r,e,k⟩=>by cases e;exact k [] H F (bu.refl r.base) True.intro
theorem av(ha:DE X z e f)(hr:DM X z es ms fs)(hs:starEach (e::es) X.env=(false,eval e X.env)::starEach es X.env:=by rfl):DM X z (e::es) (true::ms) (ae f fs):=PA.weak (cF ha hr hs) fun σ H Q ⟨η,F,ds,r,e,k⟩=>by obtain⟨d,l,h1,h2,rfl⟩:=vH e;refine⟨η,F,d,r,h1,fun v H1 F1 g1 q1=>⟨η,F1,l,r.grow g1,h2,fun vs H2 F2 g2 q2=>?_⟩⟩;exact k _ H2 F2 (g1.trans g2) ⟨bT g2.g9 _ _ q1,q2⟩
theorem dk(ha:DB X z e f)(hr:DM X z es ms fs)(hs:starEach (e::es) X.env=(false,eval e X.env)::starEach es X.env:=by rfl):DM X z (e::es) (false::ms) (ae f fs):=PA.weak (cF ha hr hs) fun σ H Q ⟨η,F,ds,r,e,k⟩=>by obtain⟨d,l,h1,h2,rfl⟩:=vH e;refine⟨η,F,d,r,h1,fun v H1 F1 g1 q1=>⟨η,F1,l,r.grow g1,h2,fun vs H2 F2 g2 q2=>?_⟩⟩;exact k _ H2 F2 (g1.trans g2) ⟨bT g2.ent _ _ q1,q2⟩
theorem sU{K:PySem.W.Frag}{F H:Hp}:∀{n:Nat} {ds:List D} {vs:List V},ix K F H (List.replicate n true) ds vs→cc K F ds vs
  |0,[],[],_=>bq.mpr rfl
  |0,_::_,_,h=>h.elim
  |0,[],_::_,h=>h.elim
  |n+1,d::ds,v::vs,h=>aE.mpr ⟨v,vs,rfl,h.1,sU h.2⟩
  |n+1,[],_,h=>h.elim
  |n+1,_::_,[],h=>h.elim
theorem vJ{K:PySem.W.Frag}{F H:Hp}(s:cq F H):∀{ms:List Bool} {ds:List D} {vs:List V},ix K F H ms ds vs→cc K H ds vs
  |[],[],[],_=>bq.mpr rfl
  |[],_::_,_,h=>h.elim
  |[],[],_::_,h=>h.elim
  |m :: ms,d::ds,v::vs,h=>aE.mpr ⟨v,vs,rfl,by
     cases m with
     |true=>exact bT s _ _ h.1
     |false=>exact h.1,vJ s h.2⟩
  |_::_,[],_,h=>h.elim
  |_::_,_::_,[],h=>h.elim
theorem gG{K:PySem.W.Frag}{F H:Hp}:∀{ms:List Bool} {ds:List D} {vs:List V},ix K F H ms ds vs→ms.length=vs.length∧ms.length=ds.length
  |[],[],[],_=>⟨rfl,rfl⟩
  |[],_::_,_,h=>h.elim
  |[],[],_::_,h=>h.elim
  |m::ms,d::ds,v::vs,h=>by have:=gG h.2;simp[this.1,this.2];omega
  |_::_,[],_,h=>h.elim
  |_::_,_::_,[],h=>h.elim
def gA(fs:LF):EF:=fun η=>(fs η).bind fun ds=>if ds.length≤1000 then some (.tup ds) else none
theorem gH{x1}(h:DM X z es (List.replicate n true) fs):DE X z (.Tuple es x1 pos) (gA fs):=PE.weak (Pm h) fun σ H Q ⟨η,F,d,r,e,k⟩=>by
  unfold gA at e;obtain⟨ds,h1,h2⟩:=eS.mp e;by_cases hl:ds.length≤1000
  · rw[bR hl] at h2;cases h2;refine⟨η,F,ds,r,h1,fun vs H' F' g q=>?_⟩;have q:=sU q;have hz:vs.length≤sizeLine:=by rw[←bh q];exact Ew hl
    refine⟨hz,fun p hp=>?_⟩;have g2:=bu.put g.base hp (.tup vs) hz;exact k _ _ _ (g.trans g2) (aR.mpr ⟨p,vs,rfl,aI,bG g2.g9 _ _ q⟩)
  ·rw[bS hl] at h2;cases h2
def kA(fs:LF):LF:=fun η=>(fs η).bind fun ds=>if ds.length≤1000 then some ds else none
theorem mL(h:DM X z es (List.replicate n true) fs):DO X z (.List es pos) (kA fs):=PE.weak (Pn h) fun σ H Q ⟨η,F,d,r,e,k⟩=>by
  unfold kA at e;obtain⟨ds,h1,h2⟩:=eS.mp e;by_cases hl:ds.length≤1000
  · rw[bR hl] at h2;cases h2;refine⟨η,F,_,r,h1,fun vs H' F' g q=>?_⟩;have q:=sU q;have hz:vs.length≤sizeLine:=by rw[←bh q];exact Ew hl
    refine⟨hz,fun p hp=>?_⟩;have g2:=bu.own g.base hp (.lst vs) hz rfl;exact k p vs _ F' (g.trans g2) (g.ent.free hp) (g.base.sub.free hp) aI q
  ·rw[bS hl] at h2;cases h2
end
def dS(K:PySem.W.Frag)(ms:List Bool)(Fn:List D→Option Slot):Sp:=fun vs H Q _=>∃F ds r,Base F H∧ix K F H ms ds vs∧Fn ds=some r∧yi K F H r Q
def dA(n:Nat)(ms:List Bool)(ds:List D):cD:=(List.zipWith (fun m d=>some (match m with|true=>Slot.sh d|false=>Slot.br d)) ms ds)++List.replicate (n-ds.length) none
def kQ(n:Nat)(ms:List Bool)(g:SF):List D→Option Slot:=fun ds=>match g (dA n ms ds) with
  |some (.rt r)=>some r
  |some (.nx _)=>some (.sh .non)
  |_=>none
section
variable {K:PySem.W.Frag} {F H:Hp}
theorem EC:∀{ms:List Bool} {ds:List D} {vs:List V},ix K F H ms ds vs→∀(i:Nat) sl,(List.zipWith (fun m d=>some (match m with|true=>Slot.sh d|false=>Slot.br d)) ms ds)[i]?=some (some sl)→sl.own=false∧∃v,(vs.map some)[i]?=some (some v)∧iw K ⟨F,H,Ez⟩ F H v sl
  |[],[],[],_,i,sl,e=>by simp at e
  |[],_::_,_,h,_,_,_=>h.elim
  |[],[],_::_,h,_,_,_=>h.elim
  |_::_,[],_,h,_,_,_=>h.elim
  |_::_,_::_,[],h,_,_,_=>h.elim
  |m::ms,d::ds,v::vs,h,0,sl,e=>by
   simp at e;subst e;cases m with
   |true=>exact⟨rfl,v,rfl,h.1⟩
   |false=>exact⟨rfl,v,rfl,h.1⟩
  |m::ms,d::ds,v::vs,h,i+1,sl,e=>by obtain⟨h1,w,h2,h3⟩:=EC h.2 i sl (by simpa using e);exact⟨h1,w,by simpa using h2,h3⟩
theorem kb{Ez:Addr→Hp→Prop}{vs:List V}(b:Base F H)(h:ix K F H ms ds vs):Rel K ⟨F,H,Ez⟩ F H (L2.start N vs) (dA N.length ms ds):=by
  obtain⟨l1,l2⟩:=gG h;have lz:(List.zipWith (fun m d=>some (match m with|true=>Slot.sh d|false=>Slot.br d)) ms ds).length=ds.length:=by rw[List.length_zipWith];omega
  have key:∀(i:Nat) sl,(dA N.length ms ds)[i]?=some (some sl)→sl.own=false∧∃v,(L2.start N vs)[i]?=some (some v)∧iw K ⟨F,H,Ez⟩ F H v sl:=fun i sl e=>by
    unfold dA at e;by_cases hi:i<ds.length
    ·rw[List.getElem?_append_left (by rw[lz];exact hi)] at e;obtain⟨h1,v,h2,h3⟩:=EC h i sl e;refine⟨h1,v,?_,h3⟩;unfold L2.start;rw[List.getElem?_append_left (by rw[dX];omega)];exact h2
    ·rw[FJ (by rw[lz];omega),List.getElem?_replicate] at e;split at e<;>cases e
  refine⟨bu.refl b,?_,fun i sl e=>(key i sl e).2,fun i j si sj vi vj p _ e _ o _ _ _ _ _=>by rw[(key i si e).1] at o;cases o⟩;unfold L2.start dA;rw[uq,uq,lz,dX,List.length_replicate,List.length_replicate];omega
end
theorem d4{K:PySem.W.Frag}{base:Heap}{st:Stmt}{ps:g7}{g:SF}(F:nc K x qual st f fd)(S:bB N ps (ah st))(IZ:ms.length=ps.length)(hb:∀(fT:Value) (A:Around) (outer:List Env) (s:Shared) (H:Hp) (E:XK) (z:Zc),eW k (A.deeper (envOfC qual (ah st) s.heap.objs.size f fT))→Gu (cX kY P w K mg base N qual (ah st) f fT A outer s H E).Cp z (bf st) g):dw P w K mg base kY (k+1) f fd ps (dS K ms (kQ N.length ms g)):=by
  refine F.ok S (fun vs H Q E h=>?_) (fun fT A outer s H vs Q E hr h=>?_)
  ·obtain⟨F,ds,r,_,a,_⟩:=h;rw[←IZ,(gG a).1]
  · obtain⟨F,ds,r,b,a,e,q⟩:=h;refine⟨_,hb fT A outer s H E ⟨F,H,fun _ _=>False⟩ hr,?_⟩;have rl:Rel K ⟨F,H,fun _ _=>False⟩ F H (L2.start N vs) (dA N.length ms ds):=kb b a;unfold kQ at e;cases o:g (dA N.length ms ds) with
    |none=>rw[o] at e;cases e
    |some o' =>
     rw[o] at e;refine⟨_,F,o',rl,o,?_⟩;cases o' with
     |rt r'=>cases e;exact Gs.of (z:=⟨F,H,fun _ _=>False⟩) q
     |nx η'=>cases e;exact fun σ' H' F' r' _=>q .non H' F' r'.mem (bO.mpr rfl)
     |bk _=>cases e
     |ct _=>cases e
section
variable {X:Cx} {z:Zc} {e a b:Expr} {f fa fb:EF} {pos p:Pos} {es:List Expr} {ms:List Bool} {fs:LF}
def aG(Fn:List D→Option Slot)(fs:LF):EF:=fun η=>(fs η).bind fun ds=>(Fn ds).bind fun r=>match r with|.sh d=>some d|.ol ds=>some (.lst ds)|.pr ds rest=>some (.tup (.lst ds::rest))|_=>none
def nX(Fn:List D→Option Slot)(fs:LF):LF:=fun η=>(fs η).bind fun ds=>(Fn ds).bind fun r=>match r with|.ol ds=>some ds|_=>none
theorem bI{fn:Addr}{ps:g7}{Fn:List D→Option Slot}(C:gE X.prog X.w X.K X.mg X.base k fn ps (dS X.K ms Fn))(hr:eW k X.A)(hg:Gl X x)(hm:X.mg x=some (.ref fn))(ha:DM X z (e::es) ms fs)(lU:(x==("__debug__":Str))=false:=by decide)(he:starEach (e::es) X.env=(false,eval e X.env)::starEach es X.env:=by rfl)(jz:(backTo pos (starEach es X.env)).any (·.1)=false:=by rfl):DE X z (.Call (.Name x p) (e::es) [] pos) (aG Fn fs):=PE.weak (CM C hr hg hm ha lU he jz) fun σ H Q ⟨η,F,d,r,e,k⟩=>by
  unfold aG at e;obtain⟨ds,h1,h⟩:=eS.mp e;obtain⟨s,h2,h⟩:=eS.mp h;refine⟨η,F,ds,r,h1,fun vs H1 F1 g1 q1=>?_⟩;show dS X.K ms Fn (vs++[]) H1 Q E0;rw[uv];refine⟨F1,ds,s,g1.base,q1,h2,?_⟩;cases s with
  |sh d'=>cases h;exact fun v H' F' g2 q2=>k v H' F' (g1.trans g2) q2
  |ol p8=>cases h;intro p vs H' F' g2 hp hF hH hd;have hs:cq F' (upd F' p (.lst vs)):=fq hF _;exact k _ _ _ ((g1.trans g2).share g2.base hH (g1.ent.free hp)) (aU.mpr ⟨p,vs,rfl,jE.of aI,bG hs _ _ hd⟩)
  |pr p8 N2=>cases h;intro a p vs ws H' F' g2 hp hF hH hd ha hr;have hs:cq F' (upd F' p (.lst vs)):=fq hF _;exact k _ _ _ ((g1.trans g2).share g2.base hH (g1.ent.free hp)) (aR.mpr ⟨a,_,rfl,hs _ _ ha,aE.mpr ⟨_,_,rfl,aU.mpr ⟨p,vs,rfl,jE.of aI,bG hs _ _ hd⟩,bG hs _ _ hr⟩⟩)
  |_=>cases h
theorem Md{fn:Addr}{ps:g7}{Fn:List D→Option Slot}(C:gE X.prog X.w X.K X.mg X.base k fn ps (dS X.K ms Fn))(hr:eW k X.A)(hg:Gl X x)(hm:X.mg x=some (.ref fn))(ha:DM X z (e::es) ms fs)(lU:(x==("__debug__":Str))=false:=by decide)(he:starEach (e::es) X.env=(false,eval e X.env)::starEach es X.env:=by rfl)(jz:(backTo pos (starEach es X.env)).any (·.1)=false:=by rfl):DO X z (.Call (.Name x p) (e::es) [] pos) (nX Fn fs):=PE.weak (CM C hr hg hm ha lU he jz) fun σ H Q ⟨η,F,d,r,e,k⟩=>by
  unfold nX at e;obtain⟨ds,h1,h⟩:=eS.mp e;obtain⟨s,h2,h⟩:=eS.mp h;refine⟨η,F,ds,r,h1,fun vs H1 F1 g1 q1=>?_⟩;show dS X.K ms Fn (vs++[]) H1 Q E0;rw[uv];refine⟨F1,ds,s,g1.base,q1,h2,?_⟩;cases s with
  |ol p8=>cases h;exact fun p vs H' F' g2 hp hF hH hd=>k p vs H' F' (g1.trans g2) (g1.ent.free hp) hF hH hd
  |_=>cases h
def Ja(K:PySem.W.Frag)(g:List D→Option D)(r:List V→Hp→VK→Prop):Prop:=∀(F H:Hp) (ds:List D) (d:D) (vs:List V) (Q:VK),Base F H→g ds=some d→cc K H ds vs→(∀w,Den K F d w→Q w H)→r vs H Q
def sF(g:List D→Option D)(fs:LF):EF:=fun η=>(fs η).bind g
theorem gI{id:String}{g:List D→Option D}{r:List V→Hp→VK→Prop}(hc:lT X (.builtin id) r)(hgd:Ja X.K g r)(hg:Gl X x)(hm:X.mg x=none)(hv:bootBuiltins x=some (.builtin id))(ha:DM X z (e::es) ms fs)(hn:x≠"__name__":=by decide)(lU:(x==("__debug__":Str))=false:=by decide)(he:starEach (e::es) X.env=(false,eval e X.env)::starEach es X.env:=by rfl)(jz:(backTo pos (starEach es X.env)).any (·.1)=false:=by rfl):DE X z (.Call (.Name x p) (e::es) [] pos) (sF g fs):=PE.weak (iQ hc hg hm hv ha hn lU he jz) fun σ H Q ⟨η,F,d,r,e,k⟩=>by
  unfold sF at e;obtain⟨ds,h1,h⟩:=eS.mp e;exact⟨η,F,ds,r,h1,fun vs H1 F1 g1 q1=>hgd F1 H1 ds d vs Q g1.base h (vJ g1.base.sub q1) fun w q=>k w H1 F1 g1 q⟩
theorem ED{K:PySem.W.Frag}{vs:List V}(h:cc K F [d] vs):∃v,vs=[v]∧Den K F d v:=by obtain⟨v,r,rfl,h1,h2⟩:=aE.mp h;rw[bq.mp h2];exact⟨v,rfl,h1⟩
def kB:List D→Option D
  |[.lst ds]=>some (.int ds.length)
  |[.tup ds]=>some (.int ds.length)
  |_=>none
theorem mM{K:PySem.W.Frag}:Ja K kB (fun xs H Q=>∃p ys,xs=[.ref p]∧(jE K H p ys∨j9 K H p ys)∧Q (.int ys.length) H):=fun F H ds d vs Q b e h k=>by
  unfold kB at e;split at e
  ·cases e;obtain⟨v,rfl,h'⟩:=ED h;obtain⟨a,ws,rfl,h1,h2⟩:=aU.mp h';exact⟨a,ws,rfl,.inl h1,k _ (aO.mpr (by rw[bh h2]))⟩
  ·cases e;obtain⟨v,rfl,h'⟩:=ED h;obtain⟨a,ws,rfl,h1,h2⟩:=aR.mp h';exact⟨a,ws,rfl,.inr (j9.of h1),k _ (aO.mpr (by rw[bh h2]))⟩
  ·cases e
def kZ:List D→Option bD
  |[]=>some []
  |.int i::ds=>(kZ ds).map (i::·)
  |_::_=>none
theorem kC:∀{ds:List D} {ns:bD},kZ ds=some ns→ds=ns.map D.int
  |[],ns,h=>by cases h;rfl
  |.int i::ds,ns,h=>by obtain⟨r,h1,h2⟩:=pv.mp h;subst h2;rw[kC h1];rfl
theorem iK:∀(ns:bD),kZ (ns.map D.int)=some ns
  |[]=>rfl
  |n::ns=>by show(kZ (ns.map D.int)).map (n::·)=_;rw[iK ns];rfl
def Gv:List D→Option D
  |[.lst ds]=>(kZ ds).map fun ns=>.int ns.sum
  |_=>none
theorem Jb{K:PySem.W.Frag}:Ja K Gv (fun xs H Q=>∃(p:Addr) (ns:bD),xs=[.ref p]∧jE K H p (ns.map V.int)∧Q (.int ns.sum) H):=fun F H ds d vs Q b e h k=>by
  unfold Gv at e;split at e
  ·obtain⟨ns,h1,rfl⟩:=pv.mp e;obtain⟨v,rfl,h'⟩:=ED h;obtain⟨a,ws,rfl,h2,h3⟩:=aU.mp h';rw[kC h1] at h3;rw[iu h3] at h2;exact⟨a,ns,rfl,h2,k _ (aO.mpr rfl)⟩
  ·cases e
def fu:D→Option (List D)
  |.lst ds=>some ds
  |.tup ds=>some ds
  |_=>none
def nY(f:EF):EF:=fun η=>(f η).bind fun d=>(fu d).map D.tup
theorem vK(hx:x="tuple")(hg:Gl X x)(hm:X.mg x=none)(ha:DE X z e f)(hs:starEach [e] X.env=(false,eval e X.env)::starEach [] X.env:=by rfl):DE X z (.Call (.Name x p) [e] [] pos) (nY f):=by
  subst hx;refine PE.weak (sM pQ hg hm vo (cF ha gC hs) (by decide) (by decide) hs rfl) fun σ H Q ⟨η,F,d,r,e,k⟩=>?_;unfold nY at e;obtain⟨d',h1,h⟩:=eS.mp e;obtain⟨ds,h2,rfl⟩:=pv.mp h;refine⟨η,F,d',r,h1,fun v H1 F1 g1 q1=>?_⟩;cases d' with
  |lst p8 =>
   cases h2;obtain⟨a,ws,rfl,h3,h4⟩:=aU.mp q1;have hz:ws.length≤sizeLine:=by
     rcases h3 with(h3|⟨o,h3⟩)|⟨o,its,n,_,_,_,_,hz,hv⟩
     ·exact g1.base.AY _ _ (g1.base.sub _ _ h3)
     ·exact g1.base.AY _ _ (g1.base.sub _ _ h3)
     ·rw[hv.length];simpa using hz
   refine⟨a,ws,rfl,.inl ⟨g1.base.sub.seq h3,fun l hl=>?_⟩⟩;have g2:=bu.put g1.base hl (.tup ws) hz;exact k _ _ _ (g1.trans g2) (aR.mpr ⟨l,ws,rfl,aI,bG g2.g9 _ _ h4⟩)
  |tup p8=>cases h2;obtain⟨a,ws,rfl,h3,h4⟩:=aR.mp q1;exact⟨a,ws,rfl,.inr ⟨j9.of (g1.base.sub _ _ h3),k _ _ _ g1 q1⟩⟩
  |_=>cases h2
def nh(f:EF):LF:=fun η=>(f η).bind fu
theorem qX{K:PySem.W.Frag}(b:Base F H){a:Addr}{ws:List V}(h:jE K H a ws):ws.length≤sizeLine:=by
  rcases h with(h3|⟨o,h3⟩)|⟨o,its,n,_,_,_,_,hz,hv⟩
  ·exact b.AY _ _ h3
  ·exact b.AY _ _ h3
  ·rw[hv.length];simpa using hz
theorem zq(hx:x="list")(hg:Gl X x)(hm:X.mg x=none)(ha:DE X z e f)(hs:starEach [e] X.env=(false,eval e X.env)::starEach [] X.env:=by rfl):DO X z (.Call (.Name x p) [e] [] pos) (nh f):=by
  subst hx;refine PE.weak (sM y7 hg hm En (cF ha gC hs) (by decide) (by decide) hs rfl) fun σ H Q ⟨η,F,d,r,e,k⟩=>?_;unfold nh at e;obtain⟨d',h1,h2⟩:=eS.mp e;refine⟨η,F,d',r,h1,fun v H1 F1 g1 q1=>?_⟩;cases d' with
  |lst p8=>cases h2;obtain⟨a,ws,rfl,h3,h4⟩:=aU.mp q1;have N4:=g1.base.sub.seq h3;refine⟨a,ws,rfl,.inl N4,fun l hl=>?_⟩;have g2:=bu.own g1.base hl (.lst ws) (qX g1.base N4) rfl;exact k l ws _ F1 (g1.trans g2) (g1.ent.free hl) (g1.base.sub.free hl) aI h4
  |tup p8=>cases h2;obtain⟨a,ws,rfl,h3,h4⟩:=aR.mp q1;refine⟨a,ws,rfl,.inr (j9.of (g1.base.sub _ _ h3)),fun l hl=>?_⟩;have g2:=bu.own g1.base hl (.lst ws) (show ws.length≤sizeLine from g1.base.AY _ _ (g1.base.sub _ _ h3)) rfl;exact k l ws _ F1 (g1.trans g2) (g1.ent.free hl) (g1.base.sub.free hl) aI h4
  |_=>cases h2
def jd:D→D→Option D
  |.lst ds,.int i=>pE ds i
  |.tup ds,.int i=>pE ds i
  |_,_=>none
theorem uQ{K:PySem.W.Frag}{vs:List V}{i:Int}(h:cc K F ds vs)(e:pE ds i=some d):∃v,pE vs i=some v∧Den K F d v:=by unfold pE at e⊢;rw[bh h] at e;obtain⟨j,h1,h2⟩:=eS.mp e;obtain⟨v,h3,h4⟩:=AW h h2;exact⟨v,by rw[h1];exact h3,h4⟩
theorem iS(ha:DB X z a fa)(hb:DB X z b fb)(hs:uO b:=by intro _ _;rfl):DB X z (.Subscript a b pos) (ai jd fa fb):=PE.weak (Ii (Eh.or Cz) ha hb hs) fun σ H Q ⟨η,F,d,r,e,k⟩=>by
  obtain⟨x,y,h1,h2,h3⟩:=sR e;refine⟨η,F,x,r,h1,fun v H1 F1 g1 q1=>⟨η,F1,y,r.grow g1,h2,fun u H2 F2 g2 q2=>?_⟩⟩;have q1:=bT g2.ent _ _ q1;unfold jd at h3;split at h3
  ·obtain⟨a,ws,rfl,h4,h5⟩:=aU.mp q1;rw[aO.mp q2];obtain⟨v,h6,h7⟩:=uQ h5 h3;exact .inl ⟨a,ws,_,v,rfl,rfl,h4,h6,k v H2 F2 (g1.trans g2) h7⟩
  ·obtain⟨a,ws,rfl,h4,h5⟩:=aR.mp q1;rw[aO.mp q2];obtain⟨v,h6,h7⟩:=uQ h5 h3;exact .inr ⟨a,ws,_,v,rfl,rfl,j9.of h4,h6,k v H2 F2 (g1.trans g2) h7⟩
  ·cases h3
theorem qY(ha:DE X z a fa)(hb:DB X z b fb)(hs:uO b:=by intro _ _;rfl):DE X z (.Subscript a b pos) (ai jd fa fb):=PE.weak (Ii (Eh.or Cz) ha hb hs) fun σ H Q ⟨η,F,d,r,e,k⟩=>by
  obtain⟨x,y,h1,h2,h3⟩:=sR e;refine⟨η,F,x,r,h1,fun v H1 F1 g1 q1=>⟨η,F1,y,r.grow g1,h2,fun u H2 F2 g2 q2=>?_⟩⟩;have q1:=bT g2.g9 _ _ q1;unfold jd at h3;split at h3
  ·obtain⟨a,ws,rfl,h4,h5⟩:=aU.mp q1;rw[aO.mp q2];obtain⟨v,h6,h7⟩:=uQ h5 h3;exact .inl ⟨a,ws,_,v,rfl,rfl,g2.base.sub.seq h4,h6,k v H2 F2 (g1.trans g2) h7⟩
  ·obtain⟨a,ws,rfl,h4,h5⟩:=aR.mp q1;rw[aO.mp q2];obtain⟨v,h6,h7⟩:=uQ h5 h3;exact .inr ⟨a,ws,_,v,rfl,rfl,j9.of (g2.base.sub _ _ h4),h6,k v H2 F2 (g1.trans g2) h7⟩
  ·cases h3
def Jc(cs:bD)(f:EF):EF:=fun η=>(f η).bind fun d=>match d with|.int i=>(pE cs i).map D.int|_=>none
theorem Qe{c:Addr}{cs:bD}(hg:Gl X x)(hm:X.mg x=some (.ref c))(hq:∀H,j9 X.K H c (cs.map V.int))(hb:DB X z b fb)(hs:uO b:=by intro _ _;rfl)(hd:(x==("__debug__":Str))=false:=by decide):DE X z (.Subscript (.Name x px) b pos) (Jc cs fb):=PE.weak (Ii Cz (yS (v:=.ref c) hg hm rfl hd) hb hs) fun σ H Q ⟨η,F,d,r,e,k⟩=>by
  unfold Jc at e;obtain⟨y,h1,h2⟩:=eS.mp e;refine⟨η,F,y,r,h1,fun u H2 F2 g2 q2=>?_⟩;cases y with
  |int i=>obtain⟨c',h3,h4⟩:=pv.mp h2;subst h4;rw[aO.mp q2];refine⟨c,_,i,.int c',rfl,rfl,hq H2,?_,k _ H2 F2 g2 (aO.mpr rfl)⟩;unfold pE at h3⊢;rw[dX];obtain⟨j,h5,h6⟩:=eS.mp h3;rw[h5];show(cs.map V.int)[j]?=_;rw[nI,h6];rfl
  |_=>cases h2
abbrev PF:=cD→Option (Option Int)
def vP(K:PySem.W.Frag)(z:Zc)(f:PF):TO:=fun σ H Q=>∃η F o,Rel K z F H σ η∧f η=some o∧∀H' F',bu F H F' H'→Q o H'
def DP(X:Cx)(z:Zc)(e:Option Expr)(f:PF):Prop:=PO X e (vP X.K z f)
def vL:PF:=fun _=>some none
def nZ(f:EF):PF:=fun η=>(f η).bind fun d=>match d with|.int i=>some (some i)|_=>none
theorem PO.weak{e:Option Expr}{t t':TO}(h:PO X e t)(k:∀σ H Q,t' σ H Q→t σ H Q):PO X e t':=fun pins s σ H Q I q=>h pins s σ H Q I (k σ H Q q)
theorem zr:DP X z none vL:=PO.weak LN fun σ H Q ⟨η,F,o,r,e,k⟩=>by cases e;exact k H F (bu.refl r.base)
theorem qZ(h:DB X z e f):DP X z (some e) (nZ f):=PO.weak (LP h) fun σ H Q ⟨η,F,o,r,e,k⟩=>by
  unfold nZ at e;obtain⟨d,h1,h2⟩:=eS.mp e;cases d with
  |int i=>cases h2;exact⟨η,F,_,r,h1,fun v H' F' g q=>⟨i,aO.mp q,k H' F' g⟩⟩
  |_=>cases h2
def cutD(ds:List D)(lo hi:Option Int):List D:=(ds.drop (HT.qK ds.length 0 lo)).take (HT.qK ds.length ds.length hi-HT.qK ds.length 0 lo)
def lB(f:EF)(pl ph:PF):LF:=fun η=>(f η).bind fun d=>(pl η).bind fun l=>(ph η).bind fun h=>match d with|.lst ds=>some (cutD ds l h)|_=>none
theorem q0{lo hi:Option Expr}{pl ph:PF}(ha:DE X z e f)(hl:DP X z lo pl)(hh:DP X z hi ph):DO X z (.Subscript e (.Slice lo hi none p2) pos) (lB f pl ph):=PE.weak (Ih LQ ha hl hh) fun σ H Q ⟨η,F,d,r,e,k⟩=>by
  unfold lB at e;obtain⟨d',h1,e⟩:=eS.mp e;obtain⟨l,h2,e⟩:=eS.mp e;obtain⟨h,h3,e⟩:=eS.mp e;cases d' with
  |lst ds=>cases e;refine⟨η,F,_,r,h1,fun v H1 F1 g1 q1=>⟨η,F1,l,r.grow g1,h2,fun H2 F2 g2=>⟨η,F2,h,(r.grow g1).grow g2,h3,fun H3 F3 g3=>?_⟩⟩⟩;obtain⟨a,ws,rfl,h4,h5⟩:=aU.mp (bT (g2.g9.trans g3.g9) _ _ q1);refine⟨a,ws,rfl,g3.base.sub.seq h4,fun p hp=>?_⟩;have hz:(Cy ws l h).length≤sizeLine:=qG (t8 _ _ _) (qX g3.base (g3.base.sub.seq h4));have g4:=bu.own g3.base hp (.lst (Cy ws l h)) hz rfl;have S7:=(g1.trans g2).trans g3;refine k p _ _ F3 (S7.trans g4) (S7.ent.free hp) (g3.base.sub.free hp) aI ?_;unfold cutD Cy;rw[bh h5];exact yg _ (yh _ h5)
  |_=>cases e
theorem CP(h:n≤10000):n≤sizeLine:=qG h (by rw[mD];decide)
def S8(K:PySem.W.Frag):R2:=fun x y H Q=>∃l b xs zs,x=.ref l∧y=.ref b∧jE K H l xs∧jE K H b zs∧xs.length+zs.length≤sizeLine∧∀p,H p=none→Q (.ref p) (upd H p (.lst (xs++zs)))
theorem Mf:nK X (binaryOp .Add) (S8 X.K):=by
  intro pins s σ H x y v u Q I rx ry h;obtain⟨l,b,xs,zs,rfl,rfl,hH,hB,hz,q⟩:=h;cases rx;cases ry;obtain⟨its,r,hl,_⟩:=I.list hH;obtain⟨eX,r2,Xb,_⟩:=I.list hB;obtain⟨⟨cls,dd,data,sl⟩,ho,hc,n,hd⟩:=hl.isList;obtain⟨⟨WG,Sf,data2,Hx⟩,Pr,Lf,n2,hd2⟩:=Xb.isList;simp only at hc hd Lf hd2;subst hc hd Lf hd2;have e1:=r.length;have e2:=r2.length;have ea:its.toArray++eX.toArray=(its++eX).toArray:=by simp
  refine concat_meets ⟨_,ho,rfl⟩ ⟨_,Pr,rfl⟩ noFill_list_add seq_list_add PySem.F.slot_list_add PySem.F.entry_list_add (PySem.F.args_list_add_2 _ _) (list_addW l b its.toArray eX.toArray n n2 dd Sf sl Hx (by simp;omega)) ⟨ho,Pr,?_⟩;rw[ea];exact⟨.ref _,_,I.WR (t':=s.toks) (r.append r2) (by rw[uq];omega),rfl,q _ I.fresh⟩
def Mg:D→D→Option (List D)
  |.lst x,.lst y=>if x.length+y.length≤10000 then some (x++y) else none
  |_,_=>none
def Gw(fa fb:EF):LF:=fun η=>(fa η).bind fun x=>(fb η).bind fun y=>Mg x y
theorem Gx{x y:D}{l:List D}(h:Mg x y=some l):∃u v,x=.lst u∧y=.lst v∧u.length+v.length≤10000∧l=u++v:=by
  unfold Mg at h;split at h
  · rename_i u v;by_cases hl:u.length+v.length≤10000
    ·rw[bR hl] at h;cases h;exact⟨u,v,rfl,rfl,hl,rfl⟩
    ·rw[bS hl] at h;cases h
  ·cases h
theorem Qf(ha:DE X z a fa)(hb:DE X z b fb):DO X z (.BinOp a .Add b pos) (Gw fa fb):=PE.weak (NF Mf ha hb) fun σ H Q ⟨η,F,d,r,e,k⟩=>by unfold Gw at e;obtain⟨x,h1,e⟩:=eS.mp e;obtain⟨y,h2,e⟩:=eS.mp e;obtain⟨u,w,rfl,rfl,hl,rfl⟩:=Gx e;refine⟨η,F,_,r,h1,fun v1 H1 F1 g1 q1=>⟨η,F1,_,r.grow g1,h2,fun v2 H2 F2 g2 q2=>?_⟩⟩;obtain⟨a1,vs,rfl,a2,a3⟩:=aU.mp (bT g2.g9 _ _ q1);obtain⟨b1,ws,rfl,b2,b3⟩:=aU.mp q2;have l1:=bh a3;have l2:=bh b3;refine⟨a1,b1,vs,ws,rfl,rfl,g2.base.sub.seq a2,g2.base.sub.seq b2,CP (by omega),fun q hq=>?_⟩;have g3:=bu.own g2.base hq (.lst (vs++ws)) (show(vs++ws).length≤sizeLine by rw[uq];exact CP (by omega)) rfl;have Lk:=g1.trans g2;exact k q _ _ F2 (Lk.trans g3) (Lk.ent.free hq) (g2.base.sub.free hq) aI (nT a3 b3)
def Hz:D→Option V
  |.non=>some .non
  |.bl b=>some (.bl b)
  |.int i=>some (.int i)
  |.str x=>some (.str x)
  |_=>none
theorem oR{K:PySem.W.Frag}{w:V}(h:Den K F d v)(e:Hz d=some w):v=w∧pP w=true:=by
  cases d with
  |non=>cases e;exact⟨bO.mp h,rfl⟩
  |bl _=>cases e;exact⟨bK.mp h,rfl⟩
  |int _=>cases e;exact⟨aO.mp h,rfl⟩
  |str _=>cases e;exact⟨cj.mp h,rfl⟩
  |_=>cases e
def Mh:List D→Option (List V)
  |[]=>some []
  |d::ds=>(Hz d).bind fun v=>(Mh ds).map (v::·)
theorem vN{K:PySem.W.Frag}{F:Hp}:∀{ds:List D} {vs ws:List V},cc K F ds vs→Mh ds=some ws→vs=ws∧ws.all pP=true
  |[],vs,ws,h,e=>by cases e;exact⟨bq.mp h,rfl⟩
  |d::ds,vs,ws,h,e=>by obtain⟨v,h1,e⟩:=eS.mp e;obtain⟨r,h2,rfl⟩:=pv.mp e;obtain⟨v',r',rfl,h3,h4⟩:=aE.mp h;obtain⟨e1,f1⟩:=oR h3 h1;obtain⟨e2,f2⟩:=vN h4 h2;subst e1 e2;exact⟨rfl,by rw[pX,f1,f2];rfl⟩
theorem sV:∀(ns:bD),Mh (ns.map D.int)=some (ns.map V.int)
  |[]=>rfl
  |n::ns=>by show(some (V.int n)).bind _=_;simp[sV ns]
def inD(neg:Bool):D→D→Option D:=fun x y=>(Hz x).bind fun v=>(fu y).bind fun ds=>(Mh ds).map fun ws=>.bl (if neg then !Rn v ws else Rn v ws)
theorem N5{K:PySem.W.Frag}(neg:Bool):Hy K (inD neg) (WM K neg):=fun F H x y d v u Q b e h1 h2 k=>by
  unfold inD at e;obtain⟨v',e1,e⟩:=eS.mp e;obtain⟨ds,e2,e⟩:=eS.mp e;obtain⟨ws,e3,rfl⟩:=pv.mp e;obtain⟨rfl,fv⟩:=oR h1 e1;cases y with
  |lst p8=>cases e2;obtain⟨a,us,rfl,h3,h4⟩:=aU.mp h2;obtain⟨rfl,fw⟩:=vN h4 e3;exact⟨a,us,rfl,.inl h3,fv,fw,k _ (bK.mpr rfl)⟩
  |tup p8=>cases e2;obtain⟨a,us,rfl,h3,h4⟩:=aR.mp h2;obtain⟨rfl,fw⟩:=vN h4 e3;exact⟨a,us,rfl,.inr (j9.of h3),fv,fw,k _ (bK.mpr rfl)⟩
  |_=>cases e2
def iI(C:Int→Int→Bool)(h:Int→Int→D):D→D→Option D
  |.int i,.int j=>if C i j=true then some (h i j) else none
  |_,_=>none
theorem AZ{K:PySem.W.Frag}{C:Int→Int→Bool}{C':Int→Int→Prop}{h:Int→Int→Int}(hc:∀i j,C i j=true→C' i j):Hy K (iI C fun i j=>.int (h i j)) (rI C' fun i j=>.int (h i j)):=fun F H x y d v u Q b e h1 h2 k=>by
  unfold iI at e;split at e
  · rename_i i j;by_cases Cm:C i j=true
    ·rw[bR Cm] at e;cases e;exact⟨i,j,aO.mp h1,aO.mp h2,hc i j Cm,k _ (aO.mpr rfl)⟩
    ·rw[bS Cm] at e;cases e
  ·cases e
theorem Jd{K:PySem.W.Frag}{h:Int→Int→Int}:Hy K (iI (fun _ _=>true) fun i j=>.int (h i j)) (Ly fun i j=>.int (h i j)):=fun F H x y d v u Q b e h1 h2 k=>by
  unfold iI at e;split at e
  ·rename_i i j;rw[bR rfl] at e;cases e;exact⟨i,j,aO.mp h1,aO.mp h2,k _ (aO.mpr rfl)⟩
  ·cases e
theorem Je{K:PySem.W.Frag}{h:Int→Int→Bool}:Hy K (iI (fun _ _=>true) fun i j=>.bl (h i j)) (Ly fun i j=>.bl (h i j)):=fun F H x y d v u Q b e h1 h2 k=>by
  unfold iI at e;split at e
  ·rename_i i j;rw[bR rfl] at e;cases e;exact⟨i,j,aO.mp h1,aO.mp h2,k _ (bK.mpr rfl)⟩
  ·cases e
def jQ:=iI (fun _ _=>true) fun i j=>.int (i+j)
def zt:=iI (fun _ _=>true) fun i j=>.int (i-j)
def mulC(i j:Int):Bool:=decide ((-(2^64)<i∧i<2^64)∨(-(2^64)<j∧j<2^64))
def xG:=iI mulC fun i j=>.int (i*j)
def divC(_ j:Int):Bool:=decide (0<j∧j<1073741824)
def CQ:=iI divC fun i j=>.int (i / j)
def pH(_ j:Int):Bool:=decide (0<j)
def mO:=iI pH fun i j=>.int (i%j)
def powC(i j:Int):Bool:=decide (0≤j∧j≤1000000∧i.natAbs<2^64)
def Jf:=iI powC fun i j=>.int (i^j.toNat)
def Qg:=iI powC fun i j=>.int (i*2^j.toNat)
def Qh(_ j:Int):Bool:=decide (0≤j)
def Mi:=iI Qh fun i j=>.int (i / 2^j.toNat)
def EE:=iI (fun _ _=>true) fun i j=>.int (Builtin.bitAnd i j)
def Gy:=iI (fun _ _=>true) fun i j=>.bl (decide (i<j))
def Mj:=iI (fun _ _=>true) fun i j=>.bl (decide (j<i))
theorem Ml{i:Int}(h:mulC i j=true):Lz i j:=by unfold mulC at h;have q:=yL h;exact q
theorem Mm{i:Int}(h:divC i j=true):R7 i j:=by unfold divC at h;have q:=yL h;exact q
theorem EG{i:Int}(h:powC i j=true):O7 i j:=by unfold powC at h;have q:=yL h;exact q
theorem gJ(ha:DB X z a fa)(hb:DB X z b fb):DE X z (.BinOp a .Add b pos) (ai jQ fa fb):=nV O8 Jd ha hb
theorem CT(ha:DB X z a fa)(hb:DB X z b fb):DE X z (.BinOp a .Sub b pos) (ai zt fa fb):=nV O9 Jd ha hb
theorem sW(ha:DB X z a fa)(hb:DB X z b fb):DE X z (.BinOp a .Mult b pos) (ai xG fa fb):=nV Pa (AZ fun i j h=>Ml h) ha hb
theorem zu(ha:DB X z a fa)(hb:DB X z b fb):DE X z (.BinOp a .FloorDiv b pos) (ai CQ fa fb):=nV LB (AZ fun i j h=>Mm h) ha hb
theorem iT(ha:DB X z a fa)(hb:DB X z b fb):DE X z (.BinOp a .Mod b pos) (ai mO fa fb):=nV Pb (AZ fun i j h=>yL h) ha hb
theorem Jg(ha:DB X z a fa)(hb:DB X z b fb):DE X z (.BinOp a .Pow b pos) (ai Jf fa fb):=nV Pg (AZ fun i j h=>EG h) ha hb
theorem Qi(ha:DB X z a fa)(hb:DB X z b fb):DE X z (.BinOp a .LShift b pos) (ai Qg fa fb):=nV Ph (AZ fun i j h=>EG h) ha hb
theorem Qj(ha:DB X z a fa)(hb:DB X z b fb):DE X z (.BinOp a .RShift b pos) (ai Mi fa fb):=nV Pj (AZ fun i j h=>yL h) ha hb
theorem Mp(ha:DB X z a fa)(hb:DB X z b fb):DE X z (.BinOp a .BitAnd b pos) (ai EE fa fb):=nV Pk Jd ha hb
def xH(f:EF):EF:=fun η=>(f η).bind fun d=>match d with|.int i=>some (.int (-i))|_=>none
theorem CV(ha:DB X z a fa):DE X z (.UnaryOp .USub a pos) (xH fa):=PE.weak (R5 Pl ha) fun σ H Q ⟨η,F,d,r,e,k⟩=>by
  unfold xH at e;obtain⟨d',h1,h2⟩:=eS.mp e;cases d' with
  |int i=>cases h2;exact⟨η,F,_,r,h1,fun v H' F' g q=>⟨i,aO.mp q,k _ H' F' g (aO.mpr rfl)⟩⟩
  |_=>cases h2
theorem S9(ha:DB X z a fa)(hb:DB X z b fb):DE X z (.Compare a [.Lt] [b] pos) (ai Gy fa fb):=zp NK Je ha hb (mI _)
theorem A4(ha:DB X z a fa)(hb:DB X z b fb):DT X z (.Compare a [.Lt] [b] pos) (cg (ai Gy fa fb)):=qb NK Je ha hb (mI _)
theorem EH(ha:DB X z a fa)(hb:DB X z b fb):DT X z (.Compare a [.Gt] [b] pos) (cg (ai Mj fa fb)):=qb R9 Je ha hb (mI _)
theorem Ba(ha:DB X z a fa)(hb:DB X z b fb)(hm:behindInMarks .In b=false:=by rfl):DT X z (.Compare a [.In] [b] pos) (cg (ai (inD false) fa fb)):=qb F5 (N5 false) ha hb hm
theorem Qk(ha:DB X z a fa)(hb:DB X z b fb)(hm:behindInMarks .NotIn b=false:=by rfl):DT X z (.Compare a [.NotIn] [b] pos) (cg (ai (inD true) fa fb)):=qb y4 (N5 true) ha hb hm
def lY:D→D→Option D
  |.non,.non=>some (.bl true)
  |_,.non=>some (.bl false)
  |_,_=>none
def Bb:D→D→Option D
  |.non,.non=>some (.bl false)
  |_,.non=>some (.bl true)
  |_,_=>none
theorem zv{K:PySem.W.Frag}(h:Den K F d v):v=.non↔d=.non:=by
  cases d with
  |non=>simp[bO.mp h]
  |bl _=>simp[bK.mp h]
  |int _=>simp[aO.mp h]
  |str _=>simp[cj.mp h]
  |tup _=>obtain⟨a,vs,rfl,_⟩:=aR.mp h;simp
  |lst _=>obtain⟨a,vs,rfl,_⟩:=aU.mp h;simp
  |obj _=>obtain⟨a,vs,rfl,_⟩:=eZ.mp h;simp
  |exc _=>obtain⟨a,rfl,_⟩:=gU.mp h;simp
theorem Jh{K:PySem.W.Frag}:Hy K lY (fun x y H Q=>y=.non∧Q (.bl (decide (x=.non))) H):=fun F H x y d v u Q b e h1 h2 k=>by
  have hy:y=.non:=by cases x<;>cases y<;>first|rfl|cases e
  subst hy;refine⟨bO.mp h2,k _ ?_⟩;have hd:d=.bl (decide (v=.non)):=by have q:=zv h1;cases x<;>cases e<;>simp[q]
  rw[hd];exact bK.mpr rfl
theorem Mq{K:PySem.W.Frag}:Hy K Bb (fun x y H Q=>y=.non∧Q (.bl (!decide (x=.non))) H):=fun F H x y d v u Q b e h1 h2 k=>by
  have hy:y=.non:=by cases x<;>cases y<;>first|rfl|cases e
  subst hy;refine⟨bO.mp h2,k _ ?_⟩;have hd:d=.bl (!decide (v=.non)):=by have q:=zv h1;cases x<;>cases e<;>simp[q]
  rw[hd];exact bK.mpr rfl
theorem Ji(ha:DB X z a fa)(hb:DB X z b fb):DE X z (.Compare a [.Is] [b] pos) (ai lY fa fb):=zp HV Jh ha hb (mI _)
theorem zx(ha:DB X z a fa)(hb:DB X z b fb):DT X z (.Compare a [.Is] [b] pos) (cg (ai lY fa fb)):=qb HV Jh ha hb (mI _)
theorem EI(ha:DB X z a fa)(hb:DB X z b fb):DE X z (.Compare a [.IsNot] [b] pos) (ai Bb fa fb):=zp LC Mq ha hb (mI _)
end
def CW(K:PySem.W.Frag)(z:Zc)(F:Hp)(m:Bool)(d:D)(v:V):Prop:=match m with
  |true=>Den K F d v
  |false=>Den K z.H₀ d v
structure Walk (K:PySem.W.Frag) (z:Zc) (F:Hp) (J:It) (m:Bool) (ds:List D):Prop where
  go:∀F' H',cq F F'→bu z.F₀ z.H₀ F' H'→∀i,i<ds.length→J.go i H'
  Hw:∀F' H',cq F F'→bu z.F₀ z.H₀ F' H'→∀(i:Nat) d x Gz,ds[i]?=some d→J.Hw i H' x Gz→∃Mr,bu F' H' Mr Gz∧CW K z Mr m d x
  stop:∀F' H',cq F F'→bu z.F₀ z.H₀ F' H'→J.stop ds.length H'
  len:ds.length≤sizeLine
def vI(K:PySem.W.Frag)(z:Zc)(m:Bool)(f:LF):TI:=fun σ H R=>∃η F ds,Rel K z F H σ η∧f η=some ds∧∀J H' F',bu F H F' H'→Walk K z F' J m ds→R J H'
def DI(X:Cx)(z:Zc)(tg iter:Expr)(m:Bool)(f:LF):Prop:=PI X tg iter (vI X.K z m f)
theorem PI.weak{t t':TI}(h:PI X tg e t)(k:∀σ H R,t' σ H R→t σ H R):PI X tg e t':=fun pins s σ H R I q=>h pins s σ H R I (k σ H R q)
section
variable {K:PySem.W.Frag} {z:Zc} {F:Hp}
theorem GA{vs:List V}(h:jE K F a vs)(hd:cc K F ds vs)(hl:ds.length≤sizeLine):Walk K z F (Va K a) true ds where
  go:=fun F' H' s g i hi=>⟨vs,_,(s.trans g.base.sub).seq h,nH (by rw[←bh hd];exact hi)⟩
  Hw:=fun F' H' s g i d x Gz e y=>by obtain⟨rfl,y⟩:=y;have e2:=y vs ((s.trans g.base.sub).seq h);obtain⟨d',h1,h2⟩:=lX hd e2;rw[e] at h1;cases h1;exact⟨F',bu.refl g.base,bT s _ _ h2⟩
  stop:=fun F' H' s g=>⟨vs,(s.trans g.base.sub).seq h,by rw[bh hd];exact cN _⟩
  len:=hl
theorem Jj{vs:List V}(h:j9 K F a vs)(hd:cc K F ds vs)(hl:ds.length≤sizeLine):Walk K z F (Wq K a) true ds where
  go:=fun F' H' s g i hi=>⟨vs,_,vz (s.trans g.base.sub) h,nH (by rw[←bh hd];exact hi)⟩
  Hw:=fun F' H' s g i d x Gz e y=>by obtain⟨rfl,y⟩:=y;have e2:=y vs (vz (s.trans g.base.sub) h);obtain⟨d',h1,h2⟩:=lX hd e2;rw[e] at h1;cases h1;exact⟨F',bu.refl g.base,bT s _ _ h2⟩
  stop:=fun F' H' s g=>⟨vs,vz (s.trans g.base.sub) h,by rw[bh hd];exact cN _⟩
  len:=hl
theorem CY{vs:List V}(h:jE K z.H₀ a vs)(hd:cc K z.H₀ ds vs)(hl:ds.length≤sizeLine):Walk K z F (Va K a) false ds where
  go:=fun F' H' s g i hi=>⟨vs,_,g.ent.seq h,nH (by rw[←bh hd];exact hi)⟩
  Hw:=fun F' H' s g i d x Gz e y=>by obtain⟨rfl,y⟩:=y;have e2:=y vs (g.ent.seq h);obtain⟨d',h1,h2⟩:=lX hd e2;rw[e] at h1;cases h1;exact⟨F',bu.refl g.base,h2⟩
  stop:=fun F' H' s g=>⟨vs,g.ent.seq h,by rw[bh hd];exact cN _⟩
  len:=hl
def cA(lo:Int)(n:Nat):List D:=(List.range n).map fun(i:Nat)=>D.int (lo+(i:Int))
theorem vQ{lo:Int}(hl:n≤sizeLine):Walk K z F (RX lo n) true (cA lo n) where
  go:=fun F' H' s g i hi=>by
    have q:i<n:=by simpa[cA] using hi
    exact q
  Hw:=fun F' H' s g i d x Gz e y=>by
    obtain⟨rfl,rfl⟩:=y;refine⟨F',bu.refl g.base,?_⟩;unfold cA at e;rw[nI] at e;obtain⟨j,h1,rfl⟩:=pv.mp e;have h2:j=i:=by have h3:=u0.mp h1;obtain⟨_,h4⟩:=h3;simpa using h4.symm
    subst h2;show Den K F' _ _;exact aO.mpr rfl
  stop:=fun F' H' s g=>by show n≤_;simp[cA]
  len:=by simpa[cA] using hl
end
section
variable {X:Cx} {z:Zc} {tg e a b:Expr} {f fa fb:EF} {pos p:Pos} {m:Bool}
def ia(f:EF):LF:=fun η=>(f η).bind fu
theorem iU(h:DE X z e f):DI X z tg e true (ia f):=fun pins s σ H R I ⟨η,F,ds,r,e,k⟩=>by
  unfold ia at e;obtain⟨d,h1,h2⟩:=eS.mp e;cases d with
  |lst p8=>cases h2;refine D9 h pins s σ H R I ⟨η,F,_,r,h1,fun v H' F' g q=>?_⟩;obtain⟨a,vs,rfl,h3,h4⟩:=aU.mp q;have N4:=g.base.sub.seq h3;exact⟨a,rfl,⟨vs,N4⟩,k _ H' F' g (GA h3 h4 (by rw[bh h4];exact qX g.base N4))⟩
  |tup p8=>cases h2;refine O3 h pins s σ H R I ⟨η,F,_,r,h1,fun v H' F' g q=>?_⟩;obtain⟨a,vs,rfl,h3,h4⟩:=aR.mp q;have N4:=g.base.sub _ _ h3;exact⟨a,rfl,⟨vs,j9.of N4⟩,k _ H' F' g (Jj (j9.of h3) h4 (by rw[bh h4];exact g.base.AY _ _ N4))⟩
  |_=>cases h2
def CZ(i:Nat):LF:=fun η=>match η[i]? with
  |some (some (.br (.lst ds)))=>some ds
  |_=>none
theorem N6(i:Nat)(hN:X.N[i]?=some x:=by rfl)(hv:Am X.env.scope x:=by first|exact Or.inl rfl|exact Or.inr (Or.inl rfl)|exact Or.inr (Or.inr rfl))(hd:(x==("__debug__":Str))=false:=by decide)(ji:(x==("__classdict__":Str))=false:=by decide):DI X z tg (.Name x pos) false (CZ i):=fun pins s σ H R I ⟨η,F,ds,r,e,k⟩=>by
  unfold CZ at e;split at e
  ·rename_i p8 h;cases e;obtain⟨v,EA,hs⟩:=r.at_ i _ h;obtain⟨a,vs,rfl,h3,h4⟩:=aU.mp (show Den X.K z.H₀ (.lst ds) v from hs);refine D9 (jj hN hv hd ji) pins s σ H R I ⟨_,EA,a,rfl,⟨vs,r.mem.ent.seq h3⟩,?_⟩;exact k _ H F (bu.refl r.base) (CY h3 h4 (by rw[bh h4];exact qX r.base (r.mem.ent.seq h3)))
  ·cases e
def gq(f:EF):LF:=fun η=>(f η).bind fun d=>match d with|.int j=>if j≤10000∧-10000≤j then some (cA 0 j.toNat) else none|_=>none
theorem lZ(hg:Gl X "range")(hm:X.mg "range"=none)(ha:DB X z a fa)(hs:starEach [a] X.env=[(false,eval a X.env)]:=by rfl):DI X z tg (.Call (.Name "range" p) [a] [] pos) true (gq fa) :=
  PI.weak (FU hg hm (cF ha gC hs) hs) fun σ H R ⟨η,F,ds,r,e,k⟩=>by
  unfold gq at e;obtain⟨d,h1,h2⟩:=eS.mp e;cases d with
  |int j =>
   by_cases hj:j≤10000∧-10000≤j
   ·have h2:(if j≤10000∧-10000≤j then some (cA 0 j.toNat) else none)=some ds:=h2;rw[bR hj] at h2;cases h2;exact⟨η,F,_,r,h1,fun v H' F' g q=>⟨j,by rw[aO.mp q],by omega,by omega,k _ H' F' g (vQ (CP (by omega)))⟩⟩
   ·have h2:(if j≤10000∧-10000≤j then some (cA 0 j.toNat) else none)=some ds:=h2;rw[bS hj] at h2;cases h2
  |_=>cases h2
def rh(fa fb:EF):LF:=fun η=>(fa η).bind fun c=>(fb η).bind fun d=>match c,d with|.int i,.int j=>if j≤10000∧-10000≤j∧i≤10000∧-10000≤i then some (cA i (j-i).toNat) else none|_,_=>none
theorem GB(hg:Gl X "range")(hm:X.mg "range"=none)(ha:DB X z a fa)(hb:DB X z b fb)(hs:starEach [a,b] X.env=[(false,eval a X.env),(false,eval b X.env)]:=by rfl)(yW:starEach [b] X.env=[(false,eval b X.env)]:=by rfl):DI X z tg (.Call (.Name "range" p) [a,b] [] pos) true (rh fa fb) :=
  PI.weak (FV hg hm (cF ha (cF hb gC yW) (by rw[hs,yW])) hs yW) fun σ H R ⟨η,F,ds,r,e,k⟩=>by
  unfold rh at e;obtain⟨c,h1,e⟩:=eS.mp e;obtain⟨d,h2,e⟩:=eS.mp e;cases c with
  |int i =>
   cases d with
   |int j =>
    have e:(if j≤10000∧-10000≤j∧i≤10000∧-10000≤i then some (cA i (j-i).toNat) else none)=some ds:=e;by_cases hj:j≤10000∧-10000≤j∧i≤10000∧-10000≤i
    · rw[bR hj] at e;cases e;refine⟨η,F,_,r,h1,fun v H1 F1 g1 q1=>⟨η,F1,_,r.grow g1,h2,fun u H2 F2 g2 q2=>?_⟩⟩;refine⟨i,j,by rw[aO.mp q1,aO.mp q2],⟨by omega,by omega,by omega,by omega⟩,k _ H2 F2 (g1.trans g2) (vQ ?_)⟩;have:(j-i).toNat≤20000:=by omega
      exact qG this (by rw[mD];decide)
    ·rw[bS hj] at e;cases e
   |_=>cases e
  |_=>cases e
end
def vG(K:PySem.W.Frag)(z:Zc)(m:Bool)(b:BF):TG:=fun v σ H Q=>∃η F d η',Rel K z F H σ η∧CW K z F m d v∧b d η=some η'∧∀σ',Rel K z F H σ' η'→Q σ' H
def DG(X:Cx)(z:Zc)(m:Bool)(tg:Expr)(b:BF):Prop:=PG X tg (vG X.K z m b)
theorem PG.weak{t t':TG}(h:PG X tg t)(k:∀v σ H Q,t' v σ H Q→t v σ H Q):PG X tg t':=fun pins s σ H v u Q I r q=>h pins s σ H v u Q I r (k v σ H Q q)
def Xc(m:Bool)(d:D):Slot:=match m with
  |true=>.sh d
  |false=>.br d
theorem Ms(m:Bool)(d:D):(Xc m d).own=false:=by cases m<;>rfl
theorem Ql{K:PySem.W.Frag}{z:Zc}{m:Bool}(h:CW K z F m d v):iw K z F H v (Xc m d):=by cases m<;>exact h
def aZ(m:Bool)(i:Nat):BF:=fun d η=>some (η.set i (some (Xc m d)))
section
variable {X:Cx} {z:Zc} {m:Bool} {pos:Pos}
theorem bL(i:Nat)(hN:X.N.Nodup)(hi:X.N[i]?=some x:=by rfl)(hx:Loc X.env.scope x:=by first|exact Or.inl rfl|exact Or.inr rfl)(hf:X.fn x=true∨X.env.scope.names.lookup x=some .local:=by first|exact .inl rfl|exact .inr rfl|assumption):DG X z m (.Name x pos) (aZ m i) :=
  PG.weak (Lw hN hi hx hf) fun v σ H Q ⟨η,F,d,η',r,h,e,k⟩=>by
  cases e;exact k _ (r.set i (Ms m d) (Ql h))
def vGs(K:PySem.W.Frag)(z:Zc)(m:Bool)(b:List D→cD→Option cD):Lv:=fun vs σ H Q=>∃η F ds η',Rel K z F H σ η∧(match m with|true=>cc K F ds vs|false=>cc K z.H₀ ds vs)∧b ds η=some η'∧∀σ',Rel K z F H σ' η'→Q σ' H
def Vj(X:Cx)(z:Zc)(m:Bool)(tgs:List Expr)(b:List D→cD→Option cD):Prop:=Le X tgs (vGs X.K z m b)
theorem Le.weak{tg:List Expr}{t t':Lv}(h:Le X tg t)(k:∀v σ H Q,t' v σ H Q→t v σ H Q):Le X tg t':=fun pins s σ H v u Q I r q=>h pins s σ H v u Q I r (k v σ H Q q)
def nA:List D→cD→Option cD:=fun ds η=>match ds with|[]=>some η|_=>none
def df(b:BF)(bs:List D→cD→Option cD):List D→cD→Option cD:=fun ds η=>match ds with|d::r=>(b d η).bind fun η'=>bs r η'|[]=>none
theorem mP:Vj X z m [] nA:=Le.weak Lx fun vs σ H Q ⟨η,F,ds,η',r,h,e,k⟩=>by
  unfold nA at e;split at e
  · cases e;refine⟨?_,k σ r⟩;cases m with
    |true=>exact bq.mp h
    |false=>exact bq.mp h
  ·cases e
theorem eF{es:List Expr}{b:BF}{bs:List D→cD→Option cD}(h1:DG X z m e b)(h2:Vj X z m es bs)(hs:(assignEach (e::es) X.env).map (·.2)=assign e X.env::(assignEach es X.env).map (·.2):=by rfl):Vj X z m (e::es) (df b bs) :=
  Le.weak (HP h1 h2 hs) fun vs σ H Q ⟨η,F,ds,η',r,h,e,k⟩=>by
  unfold df at e;split at e
  · rename_i d rs;obtain⟨η1,e1,e2⟩:=eS.mp e;cases m with
    |true=>obtain⟨v,vr,rfl,q1,q2⟩:=aE.mp h;exact⟨v,vr,rfl,η,F,d,η1,r,q1,e1,fun σ' r'=>⟨η1,F,rs,η',r',q2,e2,k⟩⟩
    |false=>obtain⟨v,vr,rfl,q1,q2⟩:=aE.mp h;exact⟨v,vr,rfl,η,F,d,η1,r,q1,e1,fun σ' r'=>⟨η1,F,rs,η',r',q2,e2,k⟩⟩
  ·cases e
def nC(n:Nat)(bs:List D→cD→Option cD):BF:=fun d η=>match d with|.tup ds=>if ds.length=n then bs ds η else none|_=>none
theorem qe{es:List Expr}{bs:List D→cD→Option cD}(hc:X.calm=true)(h:Vj X z m es bs)(hn:(assignEach es X.env).length=n:=by rfl)(FQ:(assignEach es X.env).findIdx? (·.1)=none:=by rfl):DG X z m (.Tuple es k pos) (nC n bs):=PG.weak (OZ hc h hn FQ) fun v σ H Q ⟨η,F,d,η',r,h,e,k⟩=>by
  unfold nC at e;split at e
  · rename_i ds;by_cases hl:ds.length=n
    · rw[bR hl] at e;cases m with
      |true=>obtain⟨a,vs,rfl,q1,q2⟩:=aR.mp (show Den X.K F (.tup ds) v from h);exact⟨a,vs,rfl,j9.of (r.base.sub _ _ q1),by rw[←bh q2];exact hl,η,F,ds,η',r,q2,e,k⟩
      |false=>obtain⟨a,vs,rfl,q1,q2⟩:=aR.mp (show Den X.K z.H₀ (.tup ds) v from h);exact⟨a,vs,rfl,j9.of (r.mem.ent _ _ q1),by rw[←bh q2];exact hl,η,F,ds,η',r,q2,e,k⟩
    ·rw[bS hl] at e;cases e
  ·cases e
end
def fA(b:BF)(t:TF)(f:EF):List D→cD→Option (List D)
  |[],_=>some []
  |d::ds,η=>(b d η).bind fun η1=>(t η1).bind fun c=>if c=true then(f η1).bind fun x=>(fA b t f ds η).map (x::·) else fA b t f ds η
def dg(nt:Nat)(fi:List Nat)(l:LF)(b:BF)(t:TF)(f:EF):LF:=fun η=>(l η).bind fun ds=>fA b t f ds (ky nt fi η)
theorem sX{K:PySem.W.Frag}{z:Zc}{m:Bool}{nt:Nat}{l:LF}{b:BF}{t:TF}{f:EF}(hf:fi.Nodup):∀σ H Q,vO K z (dg nt fi l b t f) σ H Q→IB (vI K z m l) nt fi (vG K z m b) (vT K z t) (vE K z f) σ H Q:=fun σ H Q ⟨η,F,ds,r,e,k⟩=>by
  unfold dg at e;obtain⟨xs,h1,h2⟩:=eS.mp e;refine⟨η,F,xs,r,h1,fun J H1 F1 g1 wk=>?_⟩;have r1:=r.grow g1
  -- the word: behind i turns,the items so far are those of a beginning of ds
  refine⟨fun i n ys H'=>n=xs.length-i∧i≤xs.length∧∃F' N7 Ln,bu F1 H1 F' H'∧ds=N7++Ln∧cc K F' N7 ys∧N7.length≤i∧fA b t f (xs.drop i) (ky nt fi η)=some Ln,⟨xs.length,by simp,pY _,F1,[],ds,bu.refl g1.base,rfl,bq.mpr rfl,pY _,by simpa using h2⟩,?_⟩;rintro i n ys H' ⟨rfl,hi,F',N7,Ln,g2,Vk,q,hl,hc⟩;have Lk:=(r1.mem.trans g2)
  have hyl:=bh q;by_cases nF:i<xs.length
  · refine .inr ⟨wk.go F' H' g2.g9 Lk i nF,by have:=wk.len;omega,?_⟩;have ed:xs.drop i=xs[i]::xs.drop (i+1):=List.drop_eq_getElem_cons nF;rw[ed] at hc;unfold fA at hc;obtain⟨η1,c1,hc⟩:=eS.mp hc;obtain⟨c,c2,hc⟩:=eS.mp hc;refine⟨fun y H4=>c=true∧∃F4 x Rt,bu F1 H1 F4 H4∧Den K F4 x y∧cc K F4 N7 ys∧fA b t f (xs.drop (i+1)) (ky nt fi η)=some Rt∧Ln=x::Rt,fun H3=>c=false∧∃F3,bu F1 H1 F3 H3∧cc K F3 N7 ys,?_,?_,?_⟩
    ·rintro y H4 ⟨_,F4,x,Rt,g4,q1,q2,q3,rfl⟩;exact⟨xs.length-(i+1),by omega,rfl,nF,F4,N7++[x],Rt,g4,by rw[Vk];simp,sP q2 q1,by simp;omega,q3⟩
    ·rintro H3 ⟨rfl,F3,g3,q2⟩;exact⟨xs.length-(i+1),by omega,rfl,nF,F3,N7,Ln,g3,Vk,q2,by omega,hc⟩
    · intro x Gz y;obtain⟨Mr,g3,it⟩:=wk.Hw F' H' g2.g9 Lk i xs[i] x Gz (by simp[nF]) y;have rb:Rel K z Mr Gz (nQ nt fi σ) (ky nt fi η):=((r1.grow g2).grow g3).block nt hf;refine⟨ky nt fi η,Mr,xs[i],η1,rb,it,c1,fun σ' r'=>⟨η1,Mr,c,r',c2,fun H3 F3 g4=>?_⟩⟩;cases c with
      |true=>have hc:(f η1).bind (fun x=>(fA b t f (xs.drop (i+1)) (ky nt fi η)).map (x::·))=some Ln:=hc;obtain⟨x',c3,hc⟩:=eS.mp hc;obtain⟨Rt,c4,c5⟩:=pv.mp hc;refine⟨η1,F3,x',r'.grow g4,c3,fun v H4 F4 g5 q5=>⟨rfl,F4,x',Rt,(((g2.trans g3).trans g4).trans g5),q5,bG ((g3.g9.trans g4.g9).trans g5.g9) _ _ q,c4,c5.symm⟩⟩
      |false=>exact⟨rfl,F3,((g2.trans g3).trans g4),bG (g3.g9.trans g4.g9) _ _ q⟩
  · have ei:i=xs.length:=by omega
    subst ei;have Xd:Ln=[]:=by rw[List.drop_length] at hc;unfold fA at hc;cases hc;rfl
    subst Xd;rw[uv] at Vk;subst Vk;have hz:ys.length≤sizeLine:=by have:=wk.len;omega
    refine .inl ⟨wk.stop F' H' g2.g9 Lk,hz,fun p hp=>?_⟩;have g3:=bu.own g2.base hp (.lst ys) hz rfl;exact k p ys _ F' ((g1.trans g2).trans g3) ((g1.trans g2).ent.free hp) (g2.base.sub.free hp) aI q
section
variable {X:Cx} {z:Zc} {m:Bool} {pos:Pos} {tg elt iter:Expr} {ifs:List Expr} {tgs:g7} {fi:List Nat} {scope:Scope} {l:LF} {b:BF} {t:TF} {f:EF}
def Jk(X:Cx)(z:Zc)(ifs:List Expr)(t:TF):Prop:=Gf X ifs (vT X.K z t)
def iV:TF:=fun _=>some true
theorem lb:Jk X z [] iV:=fun pins s σ H Q I ⟨η,F,c,r,e,k⟩=>by cases e;exact Iw pins s σ H Q I (k H F (bu.refl r.base))
theorem rj{c:Expr}(h:DT X z c t):Jk X z [c] t:=Iy h
theorem jB(hc:X.calm=true)(B:fh X tgs fi scope)(hf:fi.Nodup)(hi:DI X z tg iter m l)(hg:∀C ex s H,DG (jk X tgs fi scope C ex s H) z m tg b)(ht:∀C ex s H,Jk (jk X tgs fi scope C ex s H) z ifs t)(he:∀C ex s H,DE (jk X tgs fi scope C ex s H) z elt f)(hs:∀x,foldedSetIterable iter X.env x=pure x:=by intro _;rfl):DO X z (.ListComp elt [⟨tg,iter,ifs,0⟩] scope pos) (dg tgs.length fi l b t f) :=
  PE.weak (L0 (g:=vG X.K z m b) (tt:=vT X.K z t) (te:=vE X.K z f) hc B hi (fun C ex s H=>hg C ex s H) (fun C ex s H=>ht C ex s H) (fun C ex s H=>he C ex s H) hs) (sX hf)
end
section
variable {X:Cx} {z:Zc} {e a b:Expr} {f:EF} {fl:LF} {pos:Pos} {st:Stmt} {rest:List Stmt} {g g1 g2:SF}
def cn:SF:=fun η=>some (.nx η)
def bH(g1 g2:SF):SF:=fun η=>(g1 η).bind fun o=>match o with|.nx η'=>g2 η'|o=>some o
theorem bF:Gu X z [] cn:=xZ.weak Ls fun D σ H ⟨η,F,o,r,e,k⟩=>by cases e;exact k σ H F r (cq.refl _)
theorem ao(h:DS X z st g):Gu X z [st] g:=D7 h
theorem zo.mono{K:PySem.W.Frag}{o:Out}{D:Ends}(h:zo K z F o D)(s:cq F F'):zo K z F' o D:=by
  cases o with
  |nx η'=>exact fun σ' H' F2 r s2=>h σ' H' F2 r (s.trans s2)
  |bk η'=>exact fun σ' H' F2 r s2=>h σ' H' F2 r (s.trans s2)
  |ct η'=>exact fun σ' H' F2 r s2=>h σ' H' F2 r (s.trans s2)
  |rt r=>exact h
theorem aj(h1:DS X z st g1)(h2:Gu X z rest g2):Gu X z (st::rest) (bH g1 g2):=xZ.weak (HN h1 h2) fun D σ H ⟨η,F,o,r,e,k⟩=>by
  unfold bH at e;obtain⟨o1,e1,e2⟩:=eS.mp e;refine⟨η,F,o1,r,e1,?_⟩;cases o1 with
  |nx η'=>exact fun σ' H' F' r' s'=>⟨η',F',o,r',e2,k.mono s'⟩
  |rt r=>cases e2;exact k
  |bk η'=>cases e2;exact k
  |ct η'=>cases e2;exact k
def kD(t:TF)(g1 g2:SF):SF:=fun η=>(t η).bind fun c=>if c=true then g1 η else g2 η
theorem cO{c:Expr}{xs ys:List Stmt}{t:TF}(hc:DT X z c t)(h1:Gu X z xs g1)(h2:Gu X z ys g2):DS X z (.If c xs ys pos) (kD t g1 g2):=PS.weak (RT hc h1 h2) fun D σ H ⟨η,F,o,r,e,k⟩=>by
  unfold kD at e;obtain⟨c,e1,e2⟩:=eS.mp e;refine⟨η,F,c,r,e1,fun H1 F1 gr=>?_⟩;cases c with
  |true=>exact⟨η,F1,o,r.grow gr,e2,k.mono gr.g9⟩
  |false=>exact⟨η,F1,o,r.grow gr,e2,k.mono gr.g9⟩
def d5(f:EF):SF:=fun η=>(f η).map fun d=>.rt (.sh d)
theorem bQ(h:DE X z e f):DS X z (.Return (some e) pos) (d5 f):=PS.weak (yT h) fun D σ H ⟨η,F,o,r,e,k⟩=>by unfold d5 at e;obtain⟨d,e1,rfl⟩:=pv.mp e;exact⟨η,F,d,r,e1,fun v H' F' gr q=>k v H' F' (r.mem.trans gr) q⟩
def pT(f:LF):SF:=fun η=>(f η).map fun d=>.rt (.ol d)
theorem oT(h:DO X z e fl):DS X z (.Return (some e) pos) (pT fl):=PS.weak (yT h) fun D σ H ⟨η,F,o,r,e,k⟩=>by unfold pT at e;obtain⟨d,e1,rfl⟩:=pv.mp e;exact⟨η,F,d,r,e1,fun p vs H' F' gr h1 h2 h3 h4=>k p vs H' F' (r.mem.trans gr) (r.mem.ent.free h1) h2 h3 h4⟩
def yj(i:Nat):SF:=fun η=>match η[i]? with
  |some (some (.ol ds))=>some (.rt (.ol ds))
  |_=>none
theorem zy(i:Nat)(hN:X.N[i]?=some x:=by rfl)(hv:Am X.env.scope x:=by first|exact Or.inl rfl|exact Or.inr (Or.inl rfl)|exact Or.inr (Or.inr rfl))(hd:(x==("__debug__":Str))=false:=by decide)(ji:(x==("__classdict__":Str))=false:=by decide):DS X z (.Return (some (.Name x px)) pos) (yj i):=PS.weak (yT (jj hN hv hd ji)) fun D σ H ⟨η,F,o,r,e,k⟩=>by
  unfold yj at e;split at e
  ·rename_i ds h;cases e;obtain⟨p,o,h1,h2,h3,h4,vs,rfl,h5⟩:=r.ownAt h rfl;exact⟨_,h1,k p vs H F r.mem h2 h3 h4 h5⟩
  ·cases e
def dm(i:Nat)(f:EF):SF:=fun η=>(f η).map fun d=>.nx (η.set i (some (.sh d)))
def ni(i:Nat)(f:LF):SF:=fun η=>(f η).map fun ds=>.nx (η.set i (some (.ol ds)))
theorem Jl{K:PySem.W.Frag}:∀D σ H,vS K z (dm i f) D σ H→FR (vE K z f) (x4 i) D σ H:=fun D σ H ⟨η,F,o,r,e,k⟩=>by unfold dm at e;obtain⟨d,e1,rfl⟩:=pv.mp e;exact⟨η,F,d,r,e1,fun v H' F' gr q=>k _ H' F' ((r.grow gr).set i rfl q) gr.g9⟩
theorem yk{K:PySem.W.Frag}:∀D σ H,vS K z (ni i fl) D σ H→FR (vO K z fl) (x4 i) D σ H:=fun D σ H ⟨η,F,o,r,e,k⟩=>by unfold ni at e;obtain⟨d,e1,rfl⟩:=pv.mp e;refine⟨η,F,d,r,e1,fun p vs H' F' gr h1 h2 h3 h4=>k _ H' F' (r.IX gr i (sl:=.ol d) (p:=p) ⟨p,_,rfl,r.mem.ent.free h1,h2,h3,vs,rfl,h4⟩ rfl h1) gr.g9⟩
theorem bV(hN:X.N.Nodup)(h:DE X z e f)(hi:X.N[i]?=some x:=by rfl)(hx:Loc X.env.scope x:=by first|exact Or.inl rfl|exact Or.inr rfl)(hs:swapsWith e (some (.Name x pos')) pos.line X.env=pure false:=by rfl)(hf:X.fn x=true∨X.env.scope.names.lookup x=some .local:=by first|exact .inl rfl|exact .inr rfl|assumption):DS X z (.Assign [.Name x pos'] e pos) (dm i f):=PS.weak (yU hN hi hx h hs hf) Jl
theorem uR(hN:X.N.Nodup)(h:DO X z e fl)(hi:X.N[i]?=some x:=by rfl)(hx:Loc X.env.scope x:=by first|exact Or.inl rfl|exact Or.inr rfl)(hs:swapsWith e (some (.Name x pos')) pos.line X.env=pure false:=by rfl)(hf:X.fn x=true∨X.env.scope.names.lookup x=some .local:=by first|exact .inl rfl|exact .inr rfl|assumption):DS X z (.Assign [.Name x pos'] e pos) (ni i fl):=PS.weak (yU hN hi hx h hs hf) yk
theorem Mt{AJ:Pos}{m:Bool}{elt iter:Expr}{ifs:List Expr}{tgs:g7}{l:LF}{b:BF}{t:TF}{f:EF}(hc:X.calm=true)(hN:X.N.Nodup)(B:fh X tgs fi scope)(Xe:fi.Nodup)(hit:DI X z tg iter m l)(hg:∀C ex s H,DG (jk X tgs fi scope C ex s H) z m tg b)(ht:∀C ex s H,Jk (jk X tgs fi scope C ex s H) z ifs t)(he:∀C ex s H,DE (jk X tgs fi scope C ex s H) z elt f)(hi:X.N[i]?=some x:=by rfl)(hl:X.env.scope.names.lookup x=some .local:=by rfl)(IC:swapsWith (.ListComp elt [⟨tg,iter,ifs,0⟩] scope pos) (some (.Name x pos')) AJ.line X.env=pure true:=by rfl)(hs:∀x,foldedSetIterable iter X.env x=pure x:=by intro _;rfl):DS X z (.Assign [.Name x pos'] (.ListComp elt [⟨tg,iter,ifs,0⟩] scope pos) AJ) (ni i (dg tgs.length fi l b t f)) :=
  PS.weak (vn (g:=vG X.K z m b) (tt:=vT X.K z t) (te:=vE X.K z f) hc hN hi hl B hit (fun C ex s H=>hg C ex s H) (fun C ex s H=>ht C ex s H) (fun C ex s H=>he C ex s H) IC hs) fun D σ H h=>sX Xe σ H _ (yk D σ H h)
def jm(b:BF)(g:SF):List D→cD→Option Out
  |[],η=>some (.nx η)
  |d::ds,η=>(b d η).bind fun η1=>(g η1).bind fun o=>match o with
   |.nx η2=>jm b g ds η2
   |.ct η2=>jm b g ds η2
   |.bk η2=>some (.nx η2)
   |.rt r=>some (.rt r)
def md(l:LF)(b:BF)(g:SF):SF:=fun η=>(l η).bind fun ds=>jm b g ds η
theorem kE{m:Bool}{iter:Expr}{l:LF}{b:BF}(hc:X.calm=true)(hi:DI X z tg iter m l)(hg:DG X z m tg b)(hb:Gu X z body g)(hp:PassesOwn (model X.prog X.w) X.A X.env X.xe:=by exact PassesOwn.never)(hs:∀x,foldedSetIterable iter X.env x=pure x:=by intro _;rfl):DS X z (.For tg iter body [] pos) (md l b g):=PS.weak (O4 hp hc hi hg hb hs) fun D σ H ⟨η,F,o,r,e,k⟩=>by
  unfold md at e;obtain⟨ds,e1,e2⟩:=eS.mp e;refine⟨η,F,ds,r,e1,fun J H1 F1 g1 wk=>?_⟩;have r1:=r.grow g1;have k1:=k.mono g1.g9;refine⟨fun i n σ' H'=>n=ds.length-i∧i≤ds.length∧∃η' F',Rel X.K z F' H' σ' η'∧cq F1 F'∧jm b g (ds.drop i) η'=some o,⟨ds.length,by simp,pY _,η,F1,r1,cq.refl _,by simpa using e2⟩,?_⟩;rintro i n σ' H' ⟨rfl,hi,η',F',r',s',hf⟩;by_cases nF:i<ds.length
  · refine .inr ⟨wk.go F' H' s' r'.mem i nF,fun σ2 H2=>i+1≤ds.length∧∃η2 F2,Rel X.K z F2 H2 σ2 η2∧cq F1 F2∧jm b g (ds.drop (i+1)) η2=some o,fun σ2 H2 h=>⟨ds.length-(i+1),by omega,rfl,h⟩,fun x Gz y=>?_⟩;obtain⟨Mr,g3,it⟩:=wk.Hw F' H' s' r'.mem i ds[i] x Gz (by simp[nF]) y;have ed:ds.drop i=ds[i]::ds.drop (i+1):=List.drop_eq_getElem_cons nF;rw[ed] at hf;unfold jm at hf;obtain⟨η1,c1,hf⟩:=eS.mp hf;obtain⟨o1,c2,hf⟩:=eS.mp hf;refine⟨η',Mr,ds[i],η1,r'.grow g3,it,c1,fun σ3 r3=>⟨η1,Mr,o1,r3,c2,?_⟩⟩;have s3:=s'.trans g3.g9;cases o1 with
    |nx η2=>exact fun σ4 H4 F4 r4 s4=>⟨nF,η2,F4,r4,s3.trans s4,hf⟩
    |ct η2=>exact fun σ4 H4 F4 r4 s4=>⟨nF,η2,F4,r4,s3.trans s4,hf⟩
    |bk η2=>cases hf;exact fun σ4 H4 F4 r4 s4=>k1 σ4 H4 F4 r4 (s3.trans s4)
    |rt rr=>cases hf;exact k1
  · have ei:i=ds.length:=by omega
    subst ei;rw[List.drop_length] at hf;unfold jm at hf;cases hf;exact .inl ⟨wk.stop F' H' s' r'.mem,k1 σ' H' F' r' s'⟩
def iW(t:TF)(g:SF):Nat→cD→Option Out
  |0,_=>none
  |n+1,η=>(t η).bind fun c=>if c=true then(g η).bind fun o=>(match o with
   |.nx η2=>iW t g n η2
   |.ct η2=>iW t g n η2
   |.bk η2=>some (.nx η2)
   |.rt r=>some (.rt r)) else some (.nx η)
def qf(n:Nat)(t:TF)(g:SF):SF:=iW t g n
theorem vR(n:Nat){c:Expr}{t:TF}(hc:DT X z c t)(hb:Gu X z body g)(hp:PassesOwn (model X.prog X.w) X.A X.env X.xe:=by exact PassesOwn.never):DS X z (.While c body [] pos) (qf n t g):=PS.weak (HQ hp hc hb) fun D σ H ⟨η,F,o,r,e,k⟩=>by
  refine⟨fun m σ' H'=>∃η' F',Rel X.K z F' H' σ' η'∧cq F F'∧iW t g m η'=some o,⟨n,η,F,r,cq.refl _,e⟩,?_⟩;rintro m σ' H' ⟨η',F',r',s',hw⟩;cases m with
  |zero=>cases hw
  |succ m =>
   unfold iW at hw;obtain⟨c,c1,hw⟩:=eS.mp hw;refine⟨η',F',c,r',c1,fun H1 F1 g1=>?_⟩;cases c with
   |true =>
    refine WZ ?_;rw[bR rfl] at hw;obtain⟨o1,c2,hw⟩:=eS.mp hw;refine⟨fun σ2 H2=>∃η2 F2,Rel X.K z F2 H2 σ2 η2∧cq F F2∧iW t g m η2=some o,fun σ2 H2 h=>⟨m,by omega,h⟩,η',F1,o1,r'.grow g1,c2,?_⟩;have s3:=s'.trans g1.g9;cases o1 with
    |nx η2=>exact fun σ4 H4 F4 r4 s4=>⟨η2,F4,r4,s3.trans s4,hw⟩
    |ct η2=>exact fun σ4 H4 F4 r4 s4=>⟨η2,F4,r4,s3.trans s4,hw⟩
    |bk η2=>cases hw;exact fun σ4 H4 F4 r4 s4=>k σ4 H4 F4 r4 (s3.trans s4)
    |rt rr=>cases hw;exact k
   |false=>refine WY ?_;rw[bS jZ] at hw;cases hw;exact k σ' H1 F1 (r'.grow g1) (s'.trans g1.g9)
def e8(i:Nat)(f:EF):SF:=fun η=>(f η).bind fun d=>match η[i]? with
  |some (some (.ol ds))=>if ds.length<10000 then some (.nx (η.set i (some (.ol (ds++[d]))))) else none
  |_=>none
theorem fB(i:Nat){apos:Pos}(h:DE X z e f)(hN:X.N[i]?=some x:=by rfl)(hv:Am X.env.scope x:=by first|exact Or.inl rfl|exact Or.inr (Or.inl rfl)|exact Or.inr (Or.inr rfl))(hd:(x==("__debug__":Str))=false:=by decide)(ji:(x==("__classdict__":Str))=false:=by decide)(qM:attributeBase (.Name x px) "append" X.env (eval (.Name x px) X.env)=eval (.Name x px) X.env:=by rfl)(Py:((backTo eU (starEach [e] X.env)).all (fun x=>!x.1)&&(backToKw eU (keywordEach [] X.env)).all (fun x=>x.1.isSome)
      && decide (([e]:List Expr).length+([]:List Keyword).length+(if ([]:List Keyword).isEmpty then 0 else 1)<30))=true:=by rfl)(hline:(apos.endLine==eU.line)=true:=by rfl)(hs:starEach [e] X.env=(false,eval e X.env)::starEach [] X.env:=by rfl)(IC:swapsWith (.Call (.Attribute (.Name x px) "append" apos) [e] [] eU) none pos.line X.env=pure false:=by rfl):DS X z (.Expr (.Call (.Attribute (.Name x px) "append" apos) [e] [] eU) pos) (e8 i f) :=
  PS.weak (D8 (Sl PySem.F.plainAttrs_list PySem.F.slot_list_append PySem.F.type_list_append F6 (jj hN hv hd ji) (cF h gC hs) qM Py hline hs (by rfl)) IC) fun D σ H ⟨η,F,o,r,e,k⟩=>by
  unfold e8 at e;obtain⟨d,e1,e2⟩:=eS.mp e;split at e2
  · rename_i ds h;by_cases hl:ds.length<10000
    ·rw[bR hl] at e2;cases e2;obtain⟨p,o,h1,h2,h3,h4,vs,rfl,h5⟩:=r.ownAt h rfl;refine⟨_,h1,.inl ⟨rfl,vs,jE.of h4⟩,η,F,d,r,e1,fun v H' F' g1 q=>?_⟩;have r1:=r.grow g1;have h4':=g1.ent _ _ h4;have EJ:=bh h5;refine⟨p,vs,v,rfl,rfl,h4',jY (by omega) (CP (cN _)),k _ _ F' (r1.write h rfl h1 ⟨vs++[v],rfl,sP (bG g1.g9 _ _ h5) q⟩ ?_) g1.g9⟩;show(vs++[v]).length≤sizeLine;rw[uq];exact CP (by simp;omega)
    ·rw[bS hl] at e2;cases e2
  ·cases e2
def zz(i:Nat):SF:=fun η=>match η[i]? with
  |some (some (.ol _))=>some (.nx (η.set i (some (.ol []))))
  |_=>none
theorem Jm(i:Nat){apos:Pos}(hN:X.N[i]?=some x:=by rfl)(hv:Am X.env.scope x:=by first|exact Or.inl rfl|exact Or.inr (Or.inl rfl)|exact Or.inr (Or.inr rfl))(hd:(x==("__debug__":Str))=false:=by decide)(ji:(x==("__classdict__":Str))=false:=by decide)(qM:attributeBase (.Name x px) "clear" X.env (eval (.Name x px) X.env)=eval (.Name x px) X.env:=by rfl)(hline:(apos.endLine==eU.line)=true:=by rfl)(IC:swapsWith (.Call (.Attribute (.Name x px) "clear" apos) [] [] eU) none pos.line X.env=pure false:=by rfl):DS X z (.Expr (.Call (.Attribute (.Name x px) "clear" apos) [] [] eU) pos) (zz i) :=
  PS.weak (D8 (Px PySem.F.plainAttrs_list PySem.F.slot_list_clear PySem.F.type_list_clear Im (jj hN hv hd ji) qM hline) IC) fun D σ H ⟨η,F,o,r,e,k⟩=>by
  unfold zz at e;split at e
  ·rename_i ds h;cases e;obtain⟨p,o,h1,h2,h3,h4,vs,rfl,h5⟩:=r.ownAt h rfl;exact⟨_,h1,.inl ⟨rfl,vs,jE.of h4⟩,p,vs,rfl,rfl,h4,k _ _ F (r.write h rfl h1 ⟨[],rfl,bq.mpr rfl⟩ (pY _)) (cq.refl _)⟩
  ·cases e
end
mutual
def D.jn:D→Nat→Bool
  |.tup xs,n+1=>D.Jn xs n
  |.tup _,0=>false
  |.lst xs,n+1=>D.Jn xs n
  |.lst _,0=>false
  |.obj _,_=>false
  |.exc _,_=>false
  |.non,_=>true
  |.bl _,_=>true
  |.int _,_=>true
  |.str _,_=>true
def D.Jn:List D→Nat→Bool
  |[],_=>true
  |d::ds,n=>D.jn d n&&D.Jn ds n
end
mutual
def e9:D→D→Bool
  |.non,.non=>true
  |.bl a,.bl b=>a==b
  |.bl a,.int b=>(if a then 1 else 0)==b
  |.int a,.bl b=>a==(if b then 1 else 0)
  |.int a,.int b=>a==b
  |.str a,.str b=>a==b
  |.tup xs,.tup ys=>EK xs ys
  |.lst xs,.lst ys=>EK xs ys
  |_,_=>false
def EK:List D→List D→Bool
  |[],[]=>true
  |x::xs,y::ys=>e9 x y&&EK xs ys
  |_,_=>false
end
theorem rm:∀{xs ys:List D},xs.length≠ys.length→EK xs ys=false
  |[],[],h=>absurd rfl h
  |[],_::_,_=>by rw[EK];all_goals (intros;simp_all)
  |_::_,[],_=>by rw[EK];all_goals (intros;simp_all)
  |x::xs,y::ys,h=>by rw[EK,rm (xs:=xs) (ys:=ys) (fun e=>h (by simp[e])),Bool.and_false]
theorem rq:∀{xs ys:List D},xs.length=ys.length→EK xs ys=(List.range xs.length).all fun j=>e9 (xs.getD j .non) (ys.getD j .non)
  |[],[],_=>by rw[EK];rfl
  |[],_::_,h=>by simp at h
  |_::_,[],h=>by simp at h
  |x::xs,y::ys,h=>by rw[EK,rq (xs:=xs) (ys:=ys) (by simpa using h),xr,List.range_succ_eq_map,pX,List.all_map];rfl
mutual
theorem rA:∀(d:D) (n:Nat),d.jn n=true→e9 d d=true
  |.non,_,_=>by rw[e9]
  |.bl b,_,_=>by rw[e9];simp
  |.int b,_,_=>by rw[e9];simp
  |.str b,_,_=>by rw[e9];simp
  |.tup xs,0,h=>by rw[D.jn] at h;cases h
  |.tup xs,n+1,h=>by rw[D.jn] at h;rw[e9];exact vU xs n h
  |.lst xs,0,h=>by rw[D.jn] at h;cases h
  |.lst xs,n+1,h=>by rw[D.jn] at h;rw[e9];exact vU xs n h
  |.obj _,_,h=>by rw[D.jn] at h;cases h
  |.exc _,_,h=>by rw[D.jn] at h;cases h
theorem vU:∀(ds:List D) (n:Nat),D.Jn ds n=true→EK ds ds=true
  |[],_,_=>by rw[EK]
  |d::ds,n,h=>by rw[D.Jn,qF] at h;rw[EK,rA d n h.1,vU ds n h.2];rfl
end
section
variable {X:Cx} {pins:jc} {σ:St} {H:Hp} {s:Shared}
mutual
theorem zA(I:Inv X pins σ H s):∀(x y:D) (v:V),Den X.K H x v→Den X.K H y v→x=y
  |.non,y,v,h,q=>by have:=(zv q).mp (bO.mp h);exact this.symm
  |.bl b,y,v,h,q=>by
   rw[bK.mp h] at q;cases y with
   |bl c=>have e:=bK.mp q;injection e with e;rw[e]
   |non=>cases bO.mp q
   |int _=>cases aO.mp q
   |str _=>cases cj.mp q
   |tup _=>obtain⟨_,_,e,_⟩:=aR.mp q;cases e
   |lst _=>obtain⟨_,_,e,_⟩:=aU.mp q;cases e
   |obj _=>obtain⟨_,_,e,_⟩:=eZ.mp q;cases e
   |exc _=>obtain⟨_,e,_⟩:=gU.mp q;cases e
  |.int b,y,v,h,q=>by
   rw[aO.mp h] at q;cases y with
   |int c=>have e:=aO.mp q;injection e with e;rw[e]
   |non=>cases bO.mp q
   |bl _=>cases bK.mp q
   |str _=>cases cj.mp q
   |tup _=>obtain⟨_,_,e,_⟩:=aR.mp q;cases e
   |lst _=>obtain⟨_,_,e,_⟩:=aU.mp q;cases e
   |obj _=>obtain⟨_,_,e,_⟩:=eZ.mp q;cases e
   |exc _=>obtain⟨_,e,_⟩:=gU.mp q;cases e
  |.str b,y,v,h,q=>by
   rw[cj.mp h] at q;cases y with
   |str c=>have e:=cj.mp q;injection e with e;rw[e]
   |non=>cases bO.mp q
   |bl _=>cases bK.mp q
   |int _=>cases aO.mp q
   |tup _=>obtain⟨_,_,e,_⟩:=aR.mp q;cases e
   |lst _=>obtain⟨_,_,e,_⟩:=aU.mp q;cases e
   |obj _=>obtain⟨_,_,e,_⟩:=eZ.mp q;cases e
   |exc _=>obtain⟨_,e,_⟩:=gU.mp q;cases e
  |.tup xs,y,v,h,q=>by
   obtain⟨a,vs,rfl,h1,h2⟩:=aR.mp h;cases y with
   |tup ys=>obtain⟨b,ws,e,h3,h4⟩:=aR.mp q;cases e;rw[h1] at h3;cases h3;rw[vV I xs ys vs h2 h4]
   |lst ys=>obtain⟨b,ws,e,h3,h4⟩:=aU.mp q;cases e;obtain⟨its,_,⟨o,n,e1,c1,_⟩,_⟩:=I.list h3;obtain⟨its',_,⟨o',e2,c2,_⟩,_⟩:=I.tuple (j9.of h1);rw[e1] at e2;cases e2;rw[c1] at c2;injection c2 with c3;exact absurd c3 (by decide)
   |obj C=>obtain⟨b,dx,e,h3,_⟩:=eZ.mp q;cases e;rw[h1] at h3;cases h3
   |exc C=>obtain⟨b,e,h3⟩:=gU.mp q;cases e;rw[h1] at h3;cases h3
   |non=>cases bO.mp q
   |bl _=>cases bK.mp q
   |int _=>cases aO.mp q
   |str _=>cases cj.mp q
  |.lst xs,y,v,h,q=>by
   obtain⟨a,vs,rfl,h1,h2⟩:=aU.mp h;cases y with
   |lst ys=>obtain⟨b,ws,e,h3,h4⟩:=aU.mp q;cases e;have e:=I.Av h1 h3;subst e;rw[vV I xs ys vs h2 h4]
   |tup ys=>obtain⟨b,ws,e,h3,h4⟩:=aR.mp q;cases e;obtain⟨its,_,⟨o,n,e1,c1,_⟩,_⟩:=I.list h1;obtain⟨its',_,⟨o',e2,c2,_⟩,_⟩:=I.tuple (j9.of h3);rw[e1] at e2;cases e2;rw[c1] at c2;injection c2 with c3;exact absurd c3 (by decide)
   |obj C =>
    obtain⟨b,dx,e,h3,_⟩:=eZ.mp q;cases e;obtain⟨its,_,⟨o,n,e1,c1,_⟩,_⟩:=I.list h1;obtain⟨_,_,_,e2,_⟩:=(show bU X.prog X.w H s.heap _ (.ins C dx []) from I.cf _ _ h3)
    rw[e1] at e2;cases e2;cases c1
   |exc C =>
    obtain⟨b,e,h3⟩:=gU.mp q;cases e;obtain⟨its,_,⟨o,n,e1,c1,_⟩,_⟩:=I.list h1;obtain⟨⟨o2,e2,c2⟩,_⟩:=(show bU X.prog X.w H s.heap _ (.ext _) from I.cf _ _ h3)
    rw[e1] at e2;cases e2;rw[c1] at c2;cases c2
   |non=>cases bO.mp q
   |bl _=>cases bK.mp q
   |int _=>cases aO.mp q
   |str _=>cases cj.mp q
  |.exc C,y,v,h,q=>by
   obtain⟨a,rfl,h1⟩:=gU.mp h;cases y with
   |exc C' =>
    obtain⟨b,e,h3⟩:=gU.mp q;cases e;obtain⟨⟨o2,e2,c2⟩,_⟩:=(show bU X.prog X.w H s.heap _ (.ext _) from I.cf _ _ h1)
    obtain⟨⟨o3,e3,c3⟩,_⟩:=(show bU X.prog X.w H s.heap _ (.ext _) from I.cf _ _ h3)
    rw[e2] at e3;cases e3;rw[c2] at c3;cases c3;rfl
   |obj C'=>obtain⟨b,dx',e,h3,_⟩:=eZ.mp q;cases e;rw[h1] at h3;cases h3
   |tup ys=>obtain⟨b,ws,e,h3,h4⟩:=aR.mp q;cases e;rw[h1] at h3;cases h3
   |lst ys =>
    obtain⟨b,ws,e,h3,h4⟩:=aU.mp q;cases e;obtain⟨its,_,⟨o,n,e1,c1,_⟩,_⟩:=I.list h3;obtain⟨⟨o2,e2,c2⟩,_⟩:=(show bU X.prog X.w H s.heap _ (.ext _) from I.cf _ _ h1)
    rw[e1] at e2;cases e2;rw[c1] at c2;cases c2
   |non=>cases bO.mp q
   |bl _=>cases bK.mp q
   |int _=>cases aO.mp q
   |str _=>cases cj.mp q
  |.obj C,y,v,h,q=>by
   obtain⟨a,dx,rfl,h1,_⟩:=eZ.mp h;cases y with
   |obj C'=>obtain⟨b,dx',e,h3,_⟩:=eZ.mp q;cases e;rw[h1] at h3;cases h3;rfl
   |exc C'=>obtain⟨b,e,h3⟩:=gU.mp q;cases e;rw[h1] at h3;cases h3
   |tup ys=>obtain⟨b,ws,e,h3,h4⟩:=aR.mp q;cases e;rw[h1] at h3;cases h3
   |lst ys =>
    obtain⟨b,ws,e,h3,h4⟩:=aU.mp q;cases e;obtain⟨its,_,⟨o,n,e1,c1,_⟩,_⟩:=I.list h3;obtain⟨_,_,_,e2,_⟩:=(show bU X.prog X.w H s.heap _ (.ins C dx []) from I.cf _ _ h1)
    rw[e1] at e2;cases e2;cases c1
   |non=>cases bO.mp q
   |bl _=>cases bK.mp q
   |int _=>cases aO.mp q
   |str _=>cases cj.mp q
theorem vV(I:Inv X pins σ H s):∀(xs ys:List D) (vs:List V),cc X.K H xs vs→cc X.K H ys vs→xs=ys
  |[],ys,vs,h,q=>by
   rw[bq.mp h] at q;cases ys with
   |nil=>rfl
   |cons y ys=>obtain⟨_,_,e,_⟩:=aE.mp q;cases e
  |x::xs,ys,vs,h,q=>by
   obtain⟨v,r,rfl,h1,h2⟩:=aE.mp h;cases ys with
   |nil=>cases bq.mp q
   |cons y ys=>obtain⟨v',r',e,h3,h4⟩:=aE.mp q;cases e;rw[zA I x y v h1 h3,vV I xs ys r h2 h4]
end
inductive At (H:Hp) (s:Shared):D→Value→Prop where
  |non:At H s .non .none
  |bl (b:Bool):At H s (.bl b) (.bool b)
  |int (i:Int) (t:Tok):At H s (.int i) (.int i t)
  |str (x:Str) (t:Tok):At H s (.str x) (.str x t)
  |tup {xs:List D} {a:Addr} {vs:List V} {its:dW} (h:s.heap.IsTuple a its.toArray) (hv:Vals vs its):At H s (.tup xs) (.ref a)
  |lst {xs:List D} {a:Addr} {vs:List V} {its:dW} (h:s.heap.IsList a its.toArray) (hv:Vals vs its):At H s (.lst xs) (.ref a)
theorem zB{xs ys:List D}{m:Nat}(h1:xs.length=n)(h2:ys.length=m):((List.range (min n m)).all (fun j=>e9 (xs.getD j .non) (ys.getD j .non))&&n==m)=EK xs ys:=by
  subst h1 h2;by_cases e:xs.length=ys.length
  ·rw[rq e,e,Nat.min_self];simp
  ·rw[rm e];simp[e]
mutual
theorem Qm(I:Inv X pins σ H s):∀(x y:D) (n:Nat) (A:Around) (u v:V) (uu vv:Value),x.jn n=true→y.jn n=true→Den X.K H x u→Den X.K H y v→RelV u uu→RelV v vv→A.units+n<cLine→SeqAt.EqAt A s uu vv (e9 x y)
  |x,y,n,A,u,v,uu,vv,ox,oy,hx,hy,ru,rv,hu=>by
   have rB:A.units<cLine:=by omega
   cases x with
   |obj C=>rw[D.jn] at ox;cases ox
   |exc C=>rw[D.jn] at ox;cases ox
   |non =>
    rw[bO.mp hx] at ru;cases ru;cases y with
    |obj C=>rw[D.jn] at oy;cases oy
    |exc C=>rw[D.jn] at oy;cases oy
    |non=>rw[bO.mp hy] at rv;cases rv;rw[e9];exact SeqAt.EqAt.same _
    |bl b=>rw[bK.mp hy] at rv;cases rv;rw[e9];exact SeqAt.EqAt.none_bool b;all_goals (intros;simp_all)
    |int b=>rw[aO.mp hy] at rv;obtain⟨t,rfl⟩:=rv;rw[e9];exact SeqAt.EqAt.none_int b t;all_goals (intros;simp_all)
    |str b=>rw[cj.mp hy] at rv;obtain⟨t,rfl⟩:=rv;rw[e9];exact SeqAt.EqAt.none_str b t;all_goals (intros;simp_all)
    |tup ys=>obtain⟨b,ws,rfl,h3,h4⟩:=aR.mp hy;cases rv;obtain⟨its,_,p,_⟩:=I.tuple (j9.of h3);rw[e9];exact SeqAt.EqAt.none_tuple p rB;all_goals (intros;simp_all)
    |lst ys=>obtain⟨b,ws,rfl,h3,h4⟩:=aU.mp hy;cases rv;obtain⟨its,_,p,_⟩:=I.list h3;rw[e9];exact SeqAt.EqAt.none_list p.isList rB;all_goals (intros;simp_all)
   |bl a =>
    rw[bK.mp hx] at ru;cases ru;cases y with
    |obj C=>rw[D.jn] at oy;cases oy
    |exc C=>rw[D.jn] at oy;cases oy
    |non=>rw[bO.mp hy] at rv;cases rv;rw[e9];exact SeqAt.EqAt.bool_none a;all_goals (intros;simp_all)
    |bl b=>rw[bK.mp hy] at rv;cases rv;rw[e9];exact SeqAt.EqAt.bool_bool a b
    |int b=>rw[aO.mp hy] at rv;obtain⟨t,rfl⟩:=rv;rw[e9];exact SeqAt.EqAt.bool_int a b t
    |str b=>rw[cj.mp hy] at rv;obtain⟨t,rfl⟩:=rv;rw[e9];exact SeqAt.EqAt.bool_str a b t;all_goals (intros;simp_all)
    |tup ys=>obtain⟨b,ws,rfl,h3,h4⟩:=aR.mp hy;cases rv;obtain⟨its,_,p,_⟩:=I.tuple (j9.of h3);rw[e9];exact SeqAt.EqAt.bool_tuple a p rB;all_goals (intros;simp_all)
    |lst ys=>obtain⟨b,ws,rfl,h3,h4⟩:=aU.mp hy;cases rv;obtain⟨its,_,p,_⟩:=I.list h3;rw[e9];exact SeqAt.EqAt.bool_list a p.isList rB;all_goals (intros;simp_all)
   |int a =>
    rw[aO.mp hx] at ru;obtain⟨t0,rfl⟩:=ru;cases y with
    |obj C=>rw[D.jn] at oy;cases oy
    |exc C=>rw[D.jn] at oy;cases oy
    |non=>rw[bO.mp hy] at rv;cases rv;rw[e9];exact SeqAt.EqAt.int_none a t0;all_goals (intros;simp_all)
    |bl b=>rw[bK.mp hy] at rv;cases rv;rw[e9];exact SeqAt.EqAt.int_bool a t0 b
    |int b=>rw[aO.mp hy] at rv;obtain⟨t,rfl⟩:=rv;rw[e9];exact SeqAt.EqAt.int_int a t0 b t
    |str b=>rw[cj.mp hy] at rv;obtain⟨t,rfl⟩:=rv;rw[e9];exact SeqAt.EqAt.int_str a t0 b t;all_goals (intros;simp_all)
    |tup ys=>obtain⟨b,ws,rfl,h3,h4⟩:=aR.mp hy;cases rv;obtain⟨its,_,p,_⟩:=I.tuple (j9.of h3);rw[e9];exact SeqAt.EqAt.int_tuple a t0 p rB;all_goals (intros;simp_all)
    |lst ys=>obtain⟨b,ws,rfl,h3,h4⟩:=aU.mp hy;cases rv;obtain⟨its,_,p,_⟩:=I.list h3;rw[e9];exact SeqAt.EqAt.int_list a t0 p.isList rB;all_goals (intros;simp_all)
   |str a =>
    rw[cj.mp hx] at ru;obtain⟨t0,rfl⟩:=ru;cases y with
    |obj C=>rw[D.jn] at oy;cases oy
    |exc C=>rw[D.jn] at oy;cases oy
    |non=>rw[bO.mp hy] at rv;cases rv;rw[e9];exact SeqAt.EqAt.str_none a t0;all_goals (intros;simp_all)
    |bl b=>rw[bK.mp hy] at rv;cases rv;rw[e9];exact SeqAt.EqAt.str_bool a t0 b;all_goals (intros;simp_all)
    |int b=>rw[aO.mp hy] at rv;obtain⟨t,rfl⟩:=rv;rw[e9];exact SeqAt.EqAt.str_int a t0 b t;all_goals (intros;simp_all)
    |str b=>rw[cj.mp hy] at rv;obtain⟨t,rfl⟩:=rv;rw[e9];exact SeqAt.EqAt.str_str a t0 b t
    |tup ys=>obtain⟨b,ws,rfl,h3,h4⟩:=aR.mp hy;cases rv;obtain⟨its,_,p,_⟩:=I.tuple (j9.of h3);rw[e9];exact SeqAt.EqAt.str_tuple a t0 p rB;all_goals (intros;simp_all)
    |lst ys=>obtain⟨b,ws,rfl,h3,h4⟩:=aU.mp hy;cases rv;obtain⟨its,_,p,_⟩:=I.list h3;rw[e9];exact SeqAt.EqAt.str_list a t0 p.isList rB;all_goals (intros;simp_all)
   |tup xs =>
    obtain⟨a,vs,rfl,h1,h2⟩:=aR.mp hx;cases ru;obtain⟨its,xn,p1,_⟩:=I.tuple (j9.of h1);have p1:s.heap.IsTuple a its.toArray:=p1;cases y with
    |obj C=>rw[D.jn] at oy;cases oy
    |exc C=>rw[D.jn] at oy;cases oy
    |non=>rw[bO.mp hy] at rv;cases rv;rw[e9];exact SeqAt.EqAt.tuple_none p1 rB;all_goals (intros;simp_all)
    |bl b=>rw[bK.mp hy] at rv;cases rv;rw[e9];exact SeqAt.EqAt.tuple_bool b p1 rB;all_goals (intros;simp_all)
    |int b=>rw[aO.mp hy] at rv;obtain⟨t,rfl⟩:=rv;rw[e9];exact SeqAt.EqAt.tuple_int b t p1 rB;all_goals (intros;simp_all)
    |str b=>rw[cj.mp hy] at rv;obtain⟨t,rfl⟩:=rv;rw[e9];exact SeqAt.EqAt.tuple_str b t p1 rB;all_goals (intros;simp_all)
    |lst ys=>obtain⟨b,ws,rfl,h3,h4⟩:=aU.mp hy;cases rv;obtain⟨eX,_,p2,_⟩:=I.list h3;rw[e9];exact SeqAt.EqAt.tuple_list p1 p2.isList rB;all_goals (intros;simp_all)
    |tup ys =>
     obtain⟨b,ws,rfl,h3,h4⟩:=aR.mp hy;cases rv;by_cases xD:a=b
     ·subst xD;rw[zA I _ _ _ hx hy,rA _ n oy];exact SeqAt.EqAt.same _
     · obtain⟨eX,Be,p2,_⟩:=I.tuple (j9.of h3);cases n with
       |zero=>rw[D.jn] at ox;cases ox
       |succ n =>
        rw[D.jn] at ox oy;have key:=SeqAt.RcAt.tuples (A:=A) (e:=fun j=>e9 (xs.getD j .non) (ys.getD j .non)) p1 (show s.heap.IsTuple b eX.toArray from p2) rB (fun j q1 q2 =>
          qg I xs ys n A.in1 vs ws its eX ox oy h2 h4 xn Be (by rw[in1_units];omega) j q1 q2)
        rw[zB (by rw[bh h2,xn.length];simp) (by rw[bh h4,Be.length];simp)] at key;rw[e9];exact SeqAt.EqAt.of_refs xD key
   |lst xs =>
    obtain⟨a,vs,rfl,h1,h2⟩:=aU.mp hx;cases ru;obtain⟨its,xn,p1,_⟩:=I.list h1;have p1:=p1.isList;cases y with
    |obj C=>rw[D.jn] at oy;cases oy
    |exc C=>rw[D.jn] at oy;cases oy
    |non=>rw[bO.mp hy] at rv;cases rv;rw[e9];exact SeqAt.EqAt.list_none p1 rB;all_goals (intros;simp_all)
    |bl b=>rw[bK.mp hy] at rv;cases rv;rw[e9];exact SeqAt.EqAt.list_bool b p1 rB;all_goals (intros;simp_all)
    |int b=>rw[aO.mp hy] at rv;obtain⟨t,rfl⟩:=rv;rw[e9];exact SeqAt.EqAt.list_int b t p1 rB;all_goals (intros;simp_all)
    |str b=>rw[cj.mp hy] at rv;obtain⟨t,rfl⟩:=rv;rw[e9];exact SeqAt.EqAt.list_str b t p1 rB;all_goals (intros;simp_all)
    |tup ys=>obtain⟨b,ws,rfl,h3,h4⟩:=aR.mp hy;cases rv;obtain⟨eX,_,p2,_⟩:=I.tuple (j9.of h3);rw[e9];exact SeqAt.EqAt.list_tuple p1 (show s.heap.IsTuple b eX.toArray from p2) rB;all_goals (intros;simp_all)
    |lst ys =>
     obtain⟨b,ws,rfl,h3,h4⟩:=aU.mp hy;cases rv;by_cases xD:a=b
     ·subst xD;rw[zA I _ _ _ hx hy,rA _ n oy];exact SeqAt.EqAt.same _
     · obtain⟨eX,Be,p2,_⟩:=I.list h3;have p2:=p2.isList;have l1:xs.length=its.toArray.size:=by rw[bh h2,xn.length];simp
       have l2:ys.length=eX.toArray.size:=by rw[bh h4,Be.length];simp
       rw[e9];by_cases hl:its.toArray.size=eX.toArray.size
       · cases n with
         |zero=>rw[D.jn] at ox;cases ox
         |succ n =>
          rw[D.jn] at ox oy;have key:=SeqAt.RcAt.lists (A:=A) (e:=fun j=>e9 (xs.getD j .non) (ys.getD j .non)) p1 p2 hl rB (fun j q1 q2 =>
            qg I xs ys n A.in1 vs ws its eX ox oy h2 h4 xn Be (by rw[in1_units];omega) j q1 q2)
          rw[rq (by omega),l1];exact SeqAt.EqAt.of_refs xD key
       ·rw[rm (by omega)];exact SeqAt.EqAt.of_refs xD (SeqAt.RcAt.lists_lengths p1 p2 (by simpa using hl) rB)
  termination_by x=>sizeOf x
theorem qg(I:Inv X pins σ H s):∀(xs ys:List D) (n:Nat) (A:Around) (vs ws:List V) (its eX:dW),D.Jn xs n=true→D.Jn ys n=true→cc X.K H xs vs→cc X.K H ys ws→Vals vs its→Vals ws eX→A.units+n<cLine→∀j (h1:j<its.toArray.size) (h2:j<eX.toArray.size),SeqAt.EqAt A s its.toArray[j] eX.toArray[j] (e9 (xs.getD j .non) (ys.getD j .non))
  |[],ys,n,A,vs,ws,its,eX,ox,oy,hx,hy,ru,rv,hu,j,h1,h2=>by rw[bq.mp hx] at ru;cases ru;simp at h1
  |x::xs,[],n,A,vs,ws,its,eX,ox,oy,hx,hy,ru,rv,hu,j,h1,h2=>by rw[bq.mp hy] at rv;cases rv;simp at h2
  |x::xs,y::ys,n,A,vs,ws,its,eX,ox,oy,hx,hy,ru,rv,hu,j,h1,h2=>by
   obtain⟨v,r,rfl,a1,a2⟩:=aE.mp hx;obtain⟨w,r',rfl,b1,b2⟩:=aE.mp hy;rw[D.Jn,qF] at ox oy;cases ru with
   |cons q1 q2 =>
    cases rv with
    |cons q3 q4 =>
     cases j with
     |zero=>exact Qm I x y n A v w _ _ ox.1 oy.1 a1 b1 q1 q3 hu
     |succ j=>have:=qg I xs ys n A r r' _ _ ox.2 oy.2 a2 b2 q2 q4 hu j (by simpa using h1) (by simpa using h2);simpa using this
  termination_by xs=>sizeOf xs
end
end
end DL
abbrev fU:=Option DL.Slot
abbrev eY:=List DL.D
variable {sl:DL.Slot} {η:DL.cD} {Fn:List DL.D→Option DL.Slot}
namespace DL
open PySem PySem.Spec L2
open PyProof.Rows hiding St pairAt
def Dc:D→D→Bool:=fun x y=>match Hz x,Hz y with
  |some a,some b=>HS a b
  |_,_=>false
def GC:D→D→Bool
  |.tup _,.tup _=>true
  |.lst _,.lst _=>true
  |_,_=>false
def jf:D→D→Option D:=fun x y=>if Dc x y=true then some (.bl (e9 x y)) else if GC x y=true&&(x.jn 8&&y.jn 8) then some (.bl (e9 x y)) else none
def xI:D→D→Option D:=fun x y=>if Dc x y=true then some (.bl (!e9 x y)) else if GC x y=true&&(x.jn 8&&y.jn 8) then some (.bl (!e9 x y)) else none
theorem Jo{x y:D}{a b:V}(ha:Hz x=some a)(hb:Hz y=some b)(h:HS a b=true):e9 x y=decide (a=b):=by
  cases x with
  |non =>
   cases ha;cases y with
   |non=>cases hb;rw[e9];simp
   |bl c=>cases hb;rw[e9];simp;all_goals (intros;simp_all)
   |int c=>cases hb;rw[e9];simp;all_goals (intros;simp_all)
   |str c=>cases hb;rw[e9];simp;all_goals (intros;simp_all)
   |_=>cases hb
  |bl d =>
   cases ha;cases y with
   |non=>cases hb;rw[e9];simp;all_goals (intros;simp_all)
   |bl c=>cases hb;rw[e9,Cv]
   |int c=>cases hb;cases h
   |str c=>cases hb;rw[e9];simp;all_goals (intros;simp_all)
   |_=>cases hb
  |int d =>
   cases ha;cases y with
   |non=>cases hb;rw[e9];simp;all_goals (intros;simp_all)
   |bl c=>cases hb;cases h
   |int c=>cases hb;rw[e9,yX]
   |str c=>cases hb;rw[e9];simp;all_goals (intros;simp_all)
   |_=>cases hb
  |str d =>
   cases ha;cases y with
   |non=>cases hb;rw[e9];simp;all_goals (intros;simp_all)
   |bl c=>cases hb;rw[e9];simp;all_goals (intros;simp_all)
   |int c=>cases hb;rw[e9];simp;all_goals (intros;simp_all)
   |str c=>cases hb;rw[e9,yZ]
   |_=>cases hb
  |_=>cases ha
def Mu(K:PySem.W.Frag)(neg:Bool):R2:=fun x y H Q=>∃d e,Den K H d x∧Den K H e y∧GC d e=true∧d.jn 8=true∧e.jn 8=true∧Q (.bl (if neg then !e9 d e else e9 d e)) H
section
variable {X:Cx}
theorem Jp(hu:X.A.units+64<cLine):nK X (compareOp .Eq) (Mu X.K false):=by
  intro pins s σ H x y v u Q I rx ry h;obtain⟨d,e,hd,he,hc,od,oe,q⟩:=h;have rB:X.A.units<cLine:=by omega
  cases d with
  |tup xs =>
   cases e with
   |tup ys =>
    obtain⟨a,vs,rfl,h1,h2⟩:=aR.mp hd;obtain⟨b,ws,rfl,h3,h4⟩:=aR.mp he;cases rx;cases ry;obtain⟨its,xn,p1,_⟩:=I.tuple (j9.of h1);obtain⟨eX,Be,p2,_⟩:=I.tuple (j9.of h3);rw[D.jn] at od oe;have key:=SeqAt.RcAt.tuples (A:=X.A) (e:=fun j=>e9 (xs.getD j .non) (ys.getD j .non)) (show s.heap.IsTuple a its.toArray from p1) (show s.heap.IsTuple b eX.toArray from p2) rB (fun j q1 q2 =>
      qg I xs ys 7 X.A.in1 vs ws its eX od oe h2 h4 xn Be (by rw[in1_units];omega) j q1 q2)
    rw[zB (by rw[bh h2,xn.length];simp) (by rw[bh h4,Be.length];simp)] at key;exact key _ _ _ _ (bN I q (by rw[e9];rfl))
   |_=>cases hc
  |lst xs =>
   cases e with
   |lst ys =>
    obtain⟨a,vs,rfl,h1,h2⟩:=aU.mp hd;obtain⟨b,ws,rfl,h3,h4⟩:=aU.mp he;cases rx;cases ry;obtain⟨its,xn,p1,_⟩:=I.list h1;obtain⟨eX,Be,p2,_⟩:=I.list h3;rw[D.jn] at od oe;have l1:xs.length=its.toArray.size:=by rw[bh h2,xn.length];simp
    have l2:ys.length=eX.toArray.size:=by rw[bh h4,Be.length];simp
    by_cases hl:its.toArray.size=eX.toArray.size
    · have key:=SeqAt.RcAt.lists (A:=X.A) (e:=fun j=>e9 (xs.getD j .non) (ys.getD j .non)) p1.isList p2.isList hl rB (fun j q1 q2 =>
        qg I xs ys 7 X.A.in1 vs ws its eX od oe h2 h4 xn Be (by rw[in1_units];omega) j q1 q2)
      rw[←l1,←rq (by omega)] at key;exact key _ _ _ _ (bN I q (by rw[e9];rfl))
    ·exact SeqAt.RcAt.lists_lengths p1.isList p2.isList (by simpa using hl) rB _ _ _ _ (bN I q (by rw[e9,rm (by omega)];rfl))
   |_=>cases hc
  |_=>cases e<;>cases hc
theorem Qn(hu:X.A.units+64<cLine):nK X (compareOp .NotEq) (Mu X.K true):=by
  intro pins s σ H x y v u Q I rx ry h;obtain⟨d,e,hd,he,hc,od,oe,q⟩:=h;have rB:X.A.units<cLine:=by omega
  cases d with
  |tup xs =>
   cases e with
   |tup ys =>
    obtain⟨a,vs,rfl,h1,h2⟩:=aR.mp hd;obtain⟨b,ws,rfl,h3,h4⟩:=aR.mp he;cases rx;cases ry;obtain⟨its,xn,p1,_⟩:=I.tuple (j9.of h1);obtain⟨eX,Be,p2,_⟩:=I.tuple (j9.of h3);rw[D.jn] at od oe;have key:=SeqAt.RcNeAt.tuples (A:=X.A) (e:=fun j=>e9 (xs.getD j .non) (ys.getD j .non)) (show s.heap.IsTuple a its.toArray from p1) (show s.heap.IsTuple b eX.toArray from p2) rB (fun j q1 q2 =>
      qg I xs ys 7 X.A.in1 vs ws its eX od oe h2 h4 xn Be (by rw[in1_units];omega) j q1 q2)
    rw[zB (by rw[bh h2,xn.length];simp) (by rw[bh h4,Be.length];simp)] at key;exact key _ _ _ _ (bN I q (by rw[e9];rfl))
   |_=>cases hc
  |lst xs =>
   cases e with
   |lst ys =>
    obtain⟨a,vs,rfl,h1,h2⟩:=aU.mp hd;obtain⟨b,ws,rfl,h3,h4⟩:=aU.mp he;cases rx;cases ry;obtain⟨its,xn,p1,_⟩:=I.list h1;obtain⟨eX,Be,p2,_⟩:=I.list h3;rw[D.jn] at od oe;have l1:xs.length=its.toArray.size:=by rw[bh h2,xn.length];simp
    have l2:ys.length=eX.toArray.size:=by rw[bh h4,Be.length];simp
    by_cases hl:its.toArray.size=eX.toArray.size
    · have key:=SeqAt.RcNeAt.lists (A:=X.A) (e:=fun j=>e9 (xs.getD j .non) (ys.getD j .non)) p1.isList p2.isList hl rB (fun j q1 q2 =>
        qg I xs ys 7 X.A.in1 vs ws its eX od oe h2 h4 xn Be (by rw[in1_units];omega) j q1 q2)
      rw[←l1,←rq (by omega)] at key;exact key _ _ _ _ (bN I q (by rw[e9];rfl))
    ·exact SeqAt.RcNeAt.lists_lengths p1.isList p2.isList (by simpa using hl) rB _ _ _ _ (bN I q (by rw[e9,rm (by omega)];rfl))
   |_=>cases hc
  |_=>cases e<;>cases hc
theorem Bf{x y:D}(h:Dc x y=true):∃a b,Hz x=some a∧Hz y=some b∧HS a b=true:=by
  unfold Dc at h;split at h
  ·exact⟨_,_,by assumption,by assumption,h⟩
  ·cases h
theorem N8{K:PySem.W.Frag}:Hy K jf (fun x y H Q=>rEq x y H Q∨Mu K false x y H Q):=fun F H x y d v u Q b e h1 h2 k=>by
  unfold jf at e;by_cases hs:Dc x y=true
  ·rw[bR hs] at e;cases e;obtain⟨a,b,ha,hb,hc⟩:=Bf hs;obtain⟨rfl,_⟩:=oR h1 ha;obtain⟨rfl,_⟩:=oR h2 hb;refine .inl ⟨hc,k _ ?_⟩;rw[Jo ha hb hc];exact bK.mpr rfl
  · rw[bS hs] at e;by_cases hc:(GC x y=true&&(x.jn 8&&y.jn 8))=true
    ·rw[bR hc] at e;cases e;simp only[qF,decide_eq_true_eq] at hc;exact .inr ⟨x,y,h1,h2,hc.1,hc.2.1,hc.2.2,k _ (bK.mpr rfl)⟩
    ·rw[bS hc] at e;cases e
theorem Ta{K:PySem.W.Frag}:Hy K xI (fun x y H Q=>rNe x y H Q∨Mu K true x y H Q):=fun F H x y d v u Q b e h1 h2 k=>by
  unfold xI at e;by_cases hs:Dc x y=true
  ·rw[bR hs] at e;cases e;obtain⟨a,b,ha,hb,hc⟩:=Bf hs;obtain⟨rfl,_⟩:=oR h1 ha;obtain⟨rfl,_⟩:=oR h2 hb;refine .inl ⟨hc,k _ ?_⟩;rw[Jo ha hb hc];exact bK.mpr rfl
  · rw[bS hs] at e;by_cases hc:(GC x y=true&&(x.jn 8&&y.jn 8))=true
    ·rw[bR hc] at e;cases e;simp only[qF,decide_eq_true_eq] at hc;exact .inr ⟨x,y,h1,h2,hc.1,hc.2.1,hc.2.2,k _ (bK.mpr rfl)⟩
    ·rw[bS hc] at e;cases e
variable {z:Zc} {e a b:Expr} {f fa fb:EF} {fl:LF} {pos p:Pos}
theorem Bg(hu:X.A.units+64<cLine)(ha:DB X z a fa)(hb:DB X z b fb):DE X z (.Compare a [.Eq] [b] pos) (ai jf fa fb):=zp (NJ.or (Jp hu)) N8 ha hb (mI _)
theorem rC(hu:X.A.units+64<cLine)(ha:DB X z a fa)(hb:DB X z b fb):DT X z (.Compare a [.Eq] [b] pos) (cg (ai jf fa fb)):=qb (NJ.or (Jp hu)) N8 ha hb (mI _)
theorem Jq(hu:X.A.units+64<cLine)(ha:DB X z a fa)(hb:DB X z b fb):DT X z (.Compare a [.NotEq] [b] pos) (cg (ai xI fa fb)):=qb (R8.or (Qn hu)) Ta ha hb (mI _)
def Lp:D→Option String
  |.non=>some "NoneType"
  |.bl _=>some "bool"
  |.int _=>some "int"
  |.str _=>some "str"
  |.tup _=>some "tuple"
  |.lst _=>some "list"
  |.obj _=>none
  |.exc _=>none
def Jr(T t:String):Bool:=t==T||(T=="int"&&t=="bool")
def sY(T:String)(f:EF):EF:=fun η=>(f η).bind fun d=>(Lp d).map fun t=>.bl (Jr T t)
theorem Qo{K:PySem.W.Frag}{t:String}(h:Den K H d v)(e:Lp d=some t):pD K H v (.type t):=by
  cases d with
  |non=>cases e;rw[bO.mp h];exact .non
  |bl b=>cases e;rw[bK.mp h];exact .bl b
  |int b=>cases e;rw[aO.mp h];exact .int b
  |str b=>cases e;rw[cj.mp h];exact .str b
  |tup xs=>cases e;obtain⟨a,vs,rfl,h1,_⟩:=aR.mp h;exact .tup h1
  |lst xs =>
   cases e;obtain⟨a,vs,rfl,h1,_⟩:=aU.mp h;rcases h1 with(h1|⟨o,h1⟩)|⟨o,its,n,hk,hc,_⟩
   ·exact .lst h1
   ·exact .pM h1
   ·exact .kl hk hc
  |obj C=>cases e
  |exc C=>cases e
theorem Bh{T:String}(hk:∀(d:D) (t:String),Lp d=some t→PySem.W.kitOne X.K (.type t) (.type T)=some (Jr T t))(hv:bootBuiltins x=some (.type T))(hg:Gl X "isinstance")(hm:X.mg "isinstance"=none)(zC:Gl X x)(xJ:X.mg x=none)(ha:DB X z e f)(hs:starEach [e,.Name x p] X.env=(false,eval e X.env)::starEach [.Name x p] X.env)(yW:starEach [.Name x p] X.env=(false,eval (.Name x p) X.env)::starEach [] X.env)(jz:(backTo pos (starEach [.Name x p] X.env)).any (·.1)=false)(hn:x≠"__name__")(lU:(x==("__debug__":Str))=false):DE X z (.Call (.Name "isinstance" p2) [e,.Name x p] [] pos) (sY T f) :=
  PE.weak (iQ AK hg hm jA (cF ha (cF (D6 (v:=.ty T) zC xJ hv rfl hn lU) gC yW) hs) (by decide) (by decide) hs jz) fun σ H Q ⟨η,F,d,r,e,k⟩=>by
  unfold sY at e;obtain⟨d',h1,h2⟩:=eS.mp e;obtain⟨t,h3,h4⟩:=pv.mp h2;subst h4;exact⟨η,F,d',r,h1,fun v H' F' g q=>⟨v,T,.type t,Jr T t,rfl,Qo q h3,hk d' t h3,k _ H' F' g (bK.mpr rfl)⟩⟩
theorem kit_tuple{K:PySem.W.Frag}:∀(d:D) (t:String),Lp d=some t→PySem.W.kitOne K (.type t) (.type "tuple")=some (Jr "tuple" t):=fun d t h=>by cases d<;>cases h<;>rfl
theorem Js{K:PySem.W.Frag}:∀(d:D) (t:String),Lp d=some t→PySem.W.kitOne K (.type t) (.type "list")=some (Jr "list" t):=fun d t h=>by cases d<;>cases h<;>rfl
theorem Jt{K:PySem.W.Frag}:∀(d:D) (t:String),Lp d=some t→PySem.W.kitOne K (.type t) (.type "bool")=some (Jr "bool" t):=fun d t h=>by cases d<;>cases h<;>rfl
theorem Mv{K:PySem.W.Frag}:∀(d:D) (t:String),Lp d=some t→PySem.W.kitOne K (.type t) (.type "int")=some (Jr "int" t):=fun d t h=>by cases d<;>cases h<;>rfl
theorem Mw{K:PySem.W.Frag}:∀(d:D) (t:String),Lp d=some t→PySem.W.kitOne K (.type t) (.type "str")=some (Jr "str" t):=fun d t h=>by cases d<;>cases h<;>rfl
theorem n4(hg:Gl X "isinstance")(hm:X.mg "isinstance"=none)(xJ:X.mg "tuple"=none)(ha:DB X z e f)(zC:Gl X "tuple":=by rfl)(hs:starEach [e,.Name "tuple" p] X.env=(false,eval e X.env)::starEach [.Name "tuple" p] X.env:=by rfl):DE X z (.Call (.Name "isinstance" p2) [e,.Name "tuple" p] [] pos) (sY "tuple" f) :=
  Bh kit_tuple vo hg hm zC xJ ha hs rfl rfl (by decide) (by decide)
theorem qh(hg:Gl X "isinstance")(hm:X.mg "isinstance"=none)(xJ:X.mg "list"=none)(ha:DB X z e f)(zC:Gl X "list":=by rfl)(hs:starEach [e,.Name "list" p] X.env=(false,eval e X.env)::starEach [.Name "list" p] X.env:=by rfl):DE X z (.Call (.Name "isinstance" p2) [e,.Name "list" p] [] pos) (sY "list" f) :=
  Bh Js En hg hm zC xJ ha hs rfl rfl (by decide) (by decide)
theorem qi(hg:Gl X "isinstance")(hm:X.mg "isinstance"=none)(xJ:X.mg "bool"=none)(ha:DB X z e f)(zC:Gl X "bool":=by rfl)(hs:starEach [e,.Name "bool" p] X.env=(false,eval e X.env)::starEach [.Name "bool" p] X.env:=by rfl):DE X z (.Call (.Name "isinstance" p2) [e,.Name "bool" p] [] pos) (sY "bool" f) :=
  Bh Jt L1 hg hm zC xJ ha hs rfl rfl (by decide) (by decide)
theorem yl(hg:Gl X "isinstance")(hm:X.mg "isinstance"=none)(xJ:X.mg "int"=none)(ha:DB X z e f)(zC:Gl X "int":=by rfl)(hs:starEach [e,.Name "int" p] X.env=(false,eval e X.env)::starEach [.Name "int" p] X.env:=by rfl):DE X z (.Call (.Name "isinstance" p2) [e,.Name "int" p] [] pos) (sY "int" f) :=
  Bh Mv P2 hg hm zC xJ ha hs rfl rfl (by decide) (by decide)
theorem ym(hg:Gl X "isinstance")(hm:X.mg "isinstance"=none)(xJ:X.mg "str"=none)(ha:DB X z e f)(zC:Gl X "str":=by rfl)(hs:starEach [e,.Name "str" p] X.env=(false,eval e X.env)::starEach [.Name "str" p] X.env:=by rfl):DE X z (.Call (.Name "isinstance" p2) [e,.Name "str" p] [] pos) (sY "str" f) :=
  Bh Mw P4 hg hm zC xJ ha hs rfl rfl (by decide) (by decide)
def Tb(a b:Int):Bool:=decide (a≤b)
def iX(ns:bD):bD:=ns.mergeSort Tb
theorem kF(ns:bD):(iX ns).Perm ns:=List.mergeSort_perm ns Tb
theorem Ju(ns:bD):(iX ns).Pairwise (·≤·):=by have:=List.pairwise_mergeSort (le:=Tb) (fun a b c h1 h2=>by simp only[Tb,decide_eq_true_eq] at *;omega) (fun a b=>by simp only[Tb,Bool.or_eq_true,decide_eq_true_eq];omega) ns;exact this.imp fun h=>yL h
theorem Bi{ms:bD}(h:ms.Perm ns)(hp:ms.Pairwise (·≤·)):iX ns=ms :=
  List.Perm.eq_of_pairwise (le:=fun a b:Int=>a≤b) (fun a b _ _ h1 h2=>by omega) (Ju ns) hp ((kF ns).trans h.symm)
theorem rD:lT X (.builtin "sorted") (fun xs H Q=>∃(p:Addr) (ns:bD),xs=[.ref p]∧jE X.K H p (ns.map V.int)∧ns.length<64∧∀l,H l=none→Q (.ref l) (upd H l (.lst ((iX ns).map V.int)))):=by
  intro pins s σ H xs us Q I r h;obtain⟨p,ns,rfl,hq,uP,h⟩:=h;obtain⟨u,rfl,ru⟩:=vals1 r;cases ru;obtain⟨its,rv,hl,_⟩:=I.list hq;have hi:=intsAre_of rv;have l1:ns.length=its.length:=by have:=rv.length;simpa using this
  refine sorted_ints (vs:=its) hl.isList hi (by omega) fun out Pq ho hp hs=>?_;have e0:=Bi hp hs;subst e0;obtain⟨e,he⟩:=sortedAll_at s.heap its out;have lp:(iX ns).length=ns.length:=(kF ns).length_eq;refine⟨.ref (s.heap.objs.size+1),_,I.laid (a:=s.heap.objs.size+1) (o:=.lst ((iX ns).map V.int)) (t':=s.toks) (fun b o q=>sortedAll_old q) (by omega) ⟨?_,out.toList,e,sN ho,by simpa using he⟩,rfl,h _ (I.cf.fresh (by omega))⟩;rw[dX,lp,mD];omega
def vW(f:EF):LF:=fun η=>(f η).bind fun d=>(Jv d).bind fun ds=>(kZ ds).bind fun ns=>if ns.length<64 then some ((iX ns).map D.int) else none
where Jv:D→Option eY
  |.lst ds=>some ds
  |_=>none
theorem Jw{hu:Prop}(_:hu)(hg:Gl X "sorted")(hm:X.mg "sorted"=none)(ha:DB X z e f)(hs:starEach [e] X.env=(false,eval e X.env)::starEach [] X.env:=by rfl):DO X z (.Call (.Name "sorted" p) [e] [] pos) (vW f) :=
  PE.weak (iQ rD hg hm oN (cF ha gC hs) (by decide) (by decide) hs rfl) fun σ H Q ⟨η,F,d,r,e,k⟩=>by
  unfold vW at e;obtain⟨d',h1,e⟩:=eS.mp e;obtain⟨ds,h2,e⟩:=eS.mp e;obtain⟨ns,h3,e⟩:=eS.mp e;by_cases hl:ns.length<64
  · rw[bR hl] at e;cases e;cases d' with
    |lst p8=>cases h2;refine⟨η,F,_,r,h1,fun v H1 F1 g1 q1=>?_⟩;obtain⟨a,ws,rfl,h4,h5⟩:=aU.mp q1;rw[kC h3] at h5;rw[iu h5] at h4;refine⟨a,ns,rfl,h4,hl,fun l EJ=>?_⟩;have lp:(iX ns).length=ns.length:=(kF ns).length_eq;have g2:=bu.own g1.base EJ (.lst ((iX ns).map V.int)) (show((iX ns).map V.int).length≤sizeLine by rw[dX,lp,mD];omega) rfl;exact k l _ _ F1 (g1.trans g2) (g1.ent.free EJ) (g1.base.sub.free EJ) aI (jl _)
    |_=>cases h2
  ·rw[bS hl] at e;cases e
def sZ:eY→Option K8
  |[]=>some []
  |.tup [.int i,.tup ts]::ds=>(kZ ts).bind fun ns=>(sZ ds).map ((i,ns)::·)
  |_::_=>none
def jX(p:Int×bD):D:=.tup [.int p.1,.tup (p.2.map D.int)]
theorem GD:∀{ds:eY} {ps:K8},sZ ds=some ps→ds=ps.map jX:=by
  intro ds;induction ds with
  |nil=>intro ps h;cases h;rfl
  |cons d ds ih =>
   intro ps h;unfold sZ at h;split at h
   ·rename_i heq;cases heq
   ·rename_i i ts p8 heq;injection heq with e1 e2;subst e1 e2;obtain⟨ns,h1,h⟩:=eS.mp h;obtain⟨r,h2,h3⟩:=pv.mp h;subst h3;rw[ih h2,kC h1];rfl
   ·cases h
theorem vX:∀(ps:K8),sZ (ps.map jX)=some ps
  |[]=>rfl
  |p::ps=>by show(kZ (p.2.map D.int)).bind (fun ns=>(sZ (ps.map jX)).map ((p.1,ns)::·))=_;rw[iK,vX ps];rfl
def GF(a b:Int×bD):Bool:=!uB b a
theorem EL(a:Int×bD):uB a a=false:=by unfold uB;rw[bR rfl];exact mJ _
def mh(ps:K8):K8:=ps.mergeSort GF
theorem jo(ps:K8):(mh ps).Perm ps:=List.mergeSort_perm ps GF
theorem ER(a b:Int×bD):(GF a b||GF b a)=true:=by
  unfold GF;cases h:uB b a with
  |false=>rfl
  |true =>
   cases h2:uB a b with
   |false=>rfl
   |true=>have:=zc h h2;rw[EL] at this;cases this
theorem Jx(a b c:Int×bD)(h1:GF a b=true)(h2:GF b c=true):GF a c=true:=by
  unfold GF at *;simp only[Bool.not_eq_true'] at *;cases h:uB c a with
  |false=>rfl
  |true =>
   by_cases e1:a=b
   ·subst e1;rw[h] at h2;cases h2
   ·have q1:=zf (a:=b) (b:=a) (fun z=>e1 z.symm) h1;have q2:=zc h q1;rw[h2] at q2;cases q2
theorem Bj{ps:K8}(hd:ps.Nodup):(mh ps).Pairwise (fun a b=>uB a b=true):=by
  have h:=List.pairwise_mergeSort (le:=GF) Jx ER ps;have hn:(mh ps).Nodup:=(jo ps).nodup_iff.mpr hd;refine List.Pairwise.imp₂ (fun a b h1 h2=>?_) h hn;have N3:uB b a=false:=by unfold GF at h1;simpa using h1
  exact zf (fun z=>h2 z.symm) N3
theorem Jy{ps qs:K8}(hd:ps.Nodup)(h:qs.Perm ps)(hp:qs.Pairwise (fun a b=>uB a b=true)):mh ps=qs :=
  List.Perm.eq_of_pairwise (le:=fun a b=>uB a b=true) (fun a b _ _ h1 h2=>by have:=zc h1 h2;rw[EL] at this;cases this) (Bj hd) hp ((jo ps).trans h.symm)
def zD(f:EF):LF:=fun η=>(f η).bind fun d=>match d with
  |.lst ds=>(sZ ds).bind fun ps=>if ps.Nodup∧ps.length<64 then some ((mh ps).map jX) else none
  |_=>none
theorem Bk{K:PySem.W.Frag}{p:Int×bD}:Den K F (jX p) v↔pairAt F v p:=by
  unfold jX pairAt;constructor
  ·intro h;obtain⟨a,vs,rfl,h1,h2⟩:=aR.mp h;obtain⟨v1,r,rfl,h3,h4⟩:=aE.mp h2;obtain⟨v2,rfl,h5⟩:=ED h4;rw[aO.mp h3] at h1;obtain⟨q,ws,rfl,h6,h7⟩:=aR.mp h5;rw[iu h7] at h6;exact⟨a,q,rfl,h1,h6⟩
  ·rintro⟨a,q,rfl,h1,h2⟩;exact aR.mpr ⟨a,_,rfl,h1,aE.mpr ⟨_,_,rfl,aO.mpr rfl,vy (aR.mpr ⟨q,_,rfl,h2,jl _⟩)⟩⟩
theorem oU{K:PySem.W.Frag}{F:Hp}:∀{ps:K8} {vs:List V},cc K F (ps.map jX) vs↔Paired (pairAt F) vs ps
  |[],vs=>by
   rw[mC,bq];constructor
   ·rintro rfl;exact .nil
   ·intro h;cases h;rfl
  |p::ps,vs=>by
   rw[gy,aE];constructor
   ·rintro⟨v,r,rfl,h1,h2⟩;exact .cons (Bk.mp h1) (oU.mp h2)
   · intro h;cases h with
     |cons h1 h2=>exact⟨_,_,rfl,Bk.mpr h1,oU.mpr h2⟩
theorem GH(p:Int×bD):(jX p).xm=true:=by unfold jX;rw[qT,pX,oQ,pX,qT,IV];rfl
theorem Jz(hu:X.A.units+5<cLine)(hg:Gl X "sorted")(hm:X.mg "sorted"=none)(ha:DB X z e f)(hs:starEach [e] X.env=(false,eval e X.env)::starEach [] X.env:=by rfl):DO X z (.Call (.Name "sorted" p) [e] [] pos) (zD f) :=
  PE.weak (iQ (zg hu) hg hm oN (cF ha gC hs) (by decide) (by decide) hs rfl) fun σ H Q ⟨η,F,d,r,e,k⟩=>by
  unfold zD at e;obtain⟨d',h1,e⟩:=eS.mp e;cases d' with
  |lst ds =>
   obtain⟨ps,h2,e⟩:=eS.mp e;by_cases hl:ps.Nodup∧ps.length<64
   ·rw[bR hl] at e;cases e;refine⟨η,F,_,r,h1,fun v H1 F1 g1 q1=>?_⟩;obtain⟨a,ws,rfl,h4,h5⟩:=aU.mp q1;rw[GD h2] at h5;have h6:=oU.mp h5;refine⟨a,ws,ps,rfl,h4,h6,hl.1,by have:=h6.length;omega,fun l S0 p8 EJ p1 p2 p3=>?_⟩;have e0:=Jy hl.1 p2 p3;subst e0;have lp:(mh ps).length=ps.length:=(jo ps).length_eq;have lv:=p1.length;have g2:=bu.own g1.base EJ (.lst S0) (show S0.length≤sizeLine by rw[lv,lp,mD];omega) rfl;refine k l _ _ F1 (g1.trans g2) (g1.ent.free EJ) (g1.base.sub.free EJ) aI ?_;refine vA g1.base.tup _ _ ?_ (oU.mpr p1);rw[vC,List.all_map,List.all_eq_true];exact fun q _=>GH q
   ·rw[bS hl] at e;cases e
  |_=>cases e
end
section
variable {X:Cx} {z:Zc} {e a b:Expr} {f fa fb fk fv:EF} {fl:LF} {pos p:Pos} {g:SF} {st:Stmt}
theorem GJ{K:PySem.W.Frag}:∀D σ H,vS K z (dm i (eL fl)) D σ H→FR (vO K z fl) (x4 i) D σ H:=fun D σ H ⟨η,F,o,r,e,k⟩=>by unfold dm eL at e;obtain⟨d,e1,rfl⟩:=pv.mp e;obtain⟨ds,e2,rfl⟩:=pv.mp e1;refine⟨η,F,ds,r,e2,fun p vs H' F' gr h1 h2 h3 h4=>?_⟩;have hs:cq F' (upd F' p (.lst vs)):=fq h2 _;have g2:=gr.share gr.base h3 h1;exact k _ H' _ ((r.grow g2).set i rfl (aU.mpr ⟨p,vs,rfl,jE.of aI,bG hs _ _ h4⟩)) g2.g9
theorem Bl{AJ:Pos}{m:Bool}{elt iter:Expr}{ifs:List Expr}{tgs:g7}{l:LF}{b:BF}{t:TF}{f:EF}(hc:X.calm=true)(hN:X.N.Nodup)(B:fh X tgs fi scope)(Xe:fi.Nodup)(hit:DI X z tg iter m l)(hg:∀C ex s H,DG (jk X tgs fi scope C ex s H) z m tg b)(ht:∀C ex s H,Jk (jk X tgs fi scope C ex s H) z ifs t)(he:∀C ex s H,DE (jk X tgs fi scope C ex s H) z elt f)(hi:X.N[i]?=some x:=by rfl)(hl:X.env.scope.names.lookup x=some .local:=by rfl)(IC:swapsWith (.ListComp elt [⟨tg,iter,ifs,0⟩] scope pos) (some (.Name x pos')) AJ.line X.env=pure true:=by rfl)(hs:∀x,foldedSetIterable iter X.env x=pure x:=by intro _;rfl):DS X z (.Assign [.Name x pos'] (.ListComp elt [⟨tg,iter,ifs,0⟩] scope pos) AJ) (dm i (eL (dg tgs.length fi l b t f))) :=
  PS.weak (vn (g:=vG X.K z m b) (tt:=vT X.K z t) (te:=vE X.K z f) hc hN hi hl B hit (fun C ex s H=>hg C ex s H) (fun C ex s H=>ht C ex s H) (fun C ex s H=>he C ex s H) IC hs) fun D σ H h=>sX Xe σ H _ (GJ D σ H h)
def keyOf:D→Option Key
  |.int i=>some (.inl i)
  |.str x=>some (.inr x)
  |_=>none
def keysOf:eY→Option (List Key)
  |[]=>some []
  |d::ds=>(keyOf d).bind fun k=>(keysOf ds).map (k::·)
def GK:D→Option (List Key)
  |.tup ds=>keysOf ds
  |_=>none
theorem vY{K:PySem.W.Frag}{F:Hp}:∀{ds:eY} {vs:List V} {ks:List Key},cc K F ds vs→keysOf ds=some ks→vs=ks.map kV
  |[],vs,ks,h,e=>by cases e;exact bq.mp h
  |d::ds,vs,ks,h,e=>by
   obtain⟨k,h1,e⟩:=eS.mp e;obtain⟨r,h2,rfl⟩:=pv.mp e;obtain⟨v,r',rfl,h3,h4⟩:=aE.mp h;rw[vY h4 h2];have:v=kV k:=by
     cases d with
     |int i=>cases h1;exact aO.mp h3
     |str i=>cases h1;exact cj.mp h3
     |_=>cases h1
   rw[this];rfl
theorem uc:∀ns:bD,keysOf (ns.map D.int)=some (ns.map Sum.inl)
  |[]=>rfl
  |n::ns=>by show(some (Sum.inl n:Key)).bind _=_;simp[uc ns]
def GL:Key→D
  |.inl i=>.int i
  |.inr x=>.str x
theorem vZ{K:PySem.W.Frag}{F:Hp}:∀(ks:List Key),cc K F (ks.map GL) (ks.map kV)
  |[]=>bq.mpr rfl
  |.inl i::ks=>aE.mpr ⟨_,_,rfl,aO.mpr rfl,vZ ks⟩
  |.inr x::ks=>aE.mpr ⟨_,_,rfl,cj.mpr rfl,vZ ks⟩
def tf{κ:Type}[DecidableEq κ](aW:List (κ×D))(k:κ):Option D:=(aW.find? fun kv=>decide (kv.1=k)).map (·.2)
def putD{κ:Type}[DecidableEq κ](aW:List (κ×D))(k:κ)(v:D):List (κ×D) :=
  if (aW.any fun kv=>decide (kv.1=k))=true then aW.map fun kv=>if kv.1=k then(kv.1,v) else kv else aW++[(k,v)]
section
variable {κ:Type} [DecidableEq κ] {K:PySem.W.Frag} {F:Hp}
theorem v3:∀{aW:List (κ×D)} {ws:List (κ×V)} (k:κ),jg K F aW ws→(∀d,tf aW k=some d→∃v,pF ws k=some v∧Den K F d v)∧(tf aW k=none→pF ws k=none)
  |[],_,k,.nil=>⟨fun d h=>(by exact absurd h (by simp[tf])),fun _=>rfl⟩
  |p::aW,q::ws,k,.cons h t=>by
   obtain⟨ih1,ih2⟩:=v3 k t;by_cases e:p.1=k
   · have e1:tf (p::aW) k=some p.2:=by simp[tf,sJ,e]
     have e2:pF (q::ws) k=some q.2:=qN (by rw[←h.1];exact e);rw[e1,e2];exact⟨fun d hd=>⟨q.2,rfl,by cases hd;exact h.2⟩,fun z=>by cases z⟩
   · have e1:tf (p::aW) k=tf aW k:=by simp[tf,sJ,e]
     have e2:pF (q::ws) k=pF ws k:=qO (by rw[←h.1];exact e);rw[e1,e2];exact⟨ih1,ih2⟩
theorem EV:∀{aW:List (κ×D)} {ws:List (κ×V)} (k:κ),jg K F aW ws→(aW.any fun kv=>decide (kv.1=k))=ws.any fun kv=>decide (kv.1=k)
  |[],_,k,.nil=>rfl
  |p::aW,q::ws,k,.cons h t=>by rw[List.any_cons,List.any_cons,EV k t,h.1]
theorem Bm{d:D}{v:V}(hd:Den K F d v):∀{aW:List (κ×D)} {ws:List (κ×V)} (k:κ),jg K F aW ws→jg K F (aW.map fun kv=>if kv.1=k then(kv.1,d) else kv) (ws.map fun kv=>if kv.1=k then(kv.1,v) else kv)
  |[],_,k,.nil=>.nil
  |p::aW,q::ws,k,.cons h t=>by
   refine .cons ?_ (Bm hd k t);dsimp only;by_cases e:p.1=k
   · have e2:q.1=k:=by rw[←h.1];exact e
     rw[bR e,bR e2];exact⟨h.1,hd⟩
   · have e2:¬ q.1=k:=by rw[←h.1];exact e
     rw[bS e,bS e2];exact h
theorem Bn{d:D}{v:V}(hd:Den K F d v):∀{aW:List (κ×D)} {ws:List (κ×V)} (k:κ),jg K F aW ws→jg K F (aW++[(k,d)]) (ws++[(k,v)])
  |[],_,k,.nil=>.cons ⟨rfl,hd⟩ .nil
  |p::aW,q::ws,k,.cons h t=>.cons h (Bn hd k t)
theorem JA{aW:List (κ×D)}{ws:List (κ×V)}(k:κ)(h:jg K F aW ws)(hd:Den K F d v):jg K F (putD aW k d) (putK ws k v):=by
  unfold putD putK;rw[EV k h];by_cases e:(ws.any fun kv=>decide (kv.1=k))=true
  ·rw[bR e,bR e];exact Bm hd k h
  ·rw[bS e,bS e];exact Bn hd k h
theorem tj{aW:List (κ×D)}{ws:List (κ×V)}(h:jg K F aW ws):aW.length=ws.length:=Paired.length h
end
def dT(i:Nat)(η:cD):Option (List (List Key×D)):=match η[i]? with
  |some (some (.ot aW))=>some aW
  |some (some (.ft aW))=>some aW
  |_=>none
theorem JB{K:PySem.W.Frag}{aW:List (List Key×D)}(r:Rel K z F H σ η)(e:dT i η=some aW):∃p ws,σ[i]?=some (some (.ref p))∧Rd H p (.dT ws)∧jg K F aW ws:=by
  unfold dT at e;split at e
  ·rename_i Xf h;cases e;obtain⟨p,o,h1,h2,h3,h4,ws,rfl,h5⟩:=r.ownAt h rfl;exact⟨p,ws,h1,.inl h4,h5⟩
  ·rename_i Xf h;cases e;obtain⟨v,h1,p,ob,ws,rfl,h4,h5⟩:=r.at_ i _ h;exact⟨p,ws,h1,.inr ⟨ob,r.base.sub _ _ h4⟩,h5⟩
  ·cases e
theorem EW(s:cq H H'){p:Addr}{u:HO}(h:Rd H p u):Rd H' p u:=by
  rcases h with h|⟨o,h⟩
  ·exact .inl (s _ _ h)
  ·exact .inr ⟨o,s _ _ h⟩
theorem EX{K:PySem.W.Frag}{F:Hp}{p:Addr}{ws:List (List Key×V)}{ks:List Key}(h:Rd H p (.dT ws))(hd:Den K H d y)(hk:GK d=some ks):F8 H p y (pF ws ks):=by
  cases d with
  |tup ds=>obtain⟨a,vs,rfl,h1,h2⟩:=aR.mp hd;rw[vY h2 hk] at h1;exact .inr ⟨ws,ks,a,h,rfl,h1,rfl⟩
  |_=>cases hk
def Dd(i:Nat):SF:=fun η=>some (.nx (η.set i (some (.ot []))))
theorem JC{dp:Pos}(hN:X.N.Nodup)(hi:X.N[i]?=some x:=by rfl)(hx:Loc X.env.scope x:=by first|exact Or.inl rfl|exact Or.inr rfl)(hs:swapsWith (.Dict [] [] dp) (some (.Name x pos')) pos.line X.env=pure false:=by rfl)(hf:X.fn x=true∨X.env.scope.names.lookup x=some .local:=by first|exact .inl rfl|exact .inr rfl|assumption):DS X z (.Assign [.Name x pos'] (.Dict [] [] dp) pos) (Dd i) :=
  PS.weak (yU hN hi hx Iq hs hf) fun D σ H ⟨η,F,o,r,e,k⟩=>by
  cases e;intro p hp;have g1:=bu.own r.base hp (.dT []) (pY _) rfl;exact k _ _ F (r.IX g1 i (sl:=.ot []) (p:=p) ⟨p,_,rfl,r.mem.ent.free hp,r.base.sub.free hp,aI,[],rfl,.nil⟩ rfl hp) g1.g9
def zF(i:Nat)(fk fd:EF):EF:=fun η=>(dT i η).bind fun aW=>(fk η).bind fun k=>(fd η).bind fun d=>(GK k).map fun ks=>(tf aW ks).getD d
theorem JD(hu:X.A.units+1<cLine)(i:Nat){apos:Pos}{ek ed:Expr}{fd:EF}(hk:DB X z ek fk)(hd:DE X z ed fd)(hN:X.N[i]?=some x:=by rfl)(hv:Am X.env.scope x:=by first|exact Or.inl rfl|exact Or.inr (Or.inl rfl)|exact Or.inr (Or.inr rfl))(m:M2 X (.Name x px) "get" apos ek ed eU:=by exact⟨rfl,rfl,rfl,rfl⟩)(lU:(x==("__debug__":Str))=false:=by decide)(ji:(x==("__classdict__":Str))=false:=by decide):DE X z (.Call (.Attribute (.Name x px) "get" apos) [ek,ed] [] eU) (zF i fk fd) :=
  PE.weak (Ir hu (jj hN hv lU ji) hk hd m) fun σ H Q ⟨η,F,d,r,e,k⟩=>by
  unfold zF at e;obtain⟨aW,h1,e⟩:=eS.mp e;obtain⟨kd,h2,e⟩:=eS.mp e;obtain⟨d0,h3,e⟩:=eS.mp e;obtain⟨ks,h4,rfl⟩:=pv.mp e;obtain⟨p,ws,a1,a2,a3⟩:=JB r h1;refine⟨_,a1,p,rfl,.inr ⟨ws,a2⟩,η,F,kd,r,h2,fun y H1 F1 g1 q1=>⟨η,F1,d0,r.grow g1,h3,fun w H2 F2 g2 q2=>?_⟩⟩;have Lk:=g1.trans g2;refine⟨_,EX (F:=F2) (EW Lk.ent a2) (bT g2.ent _ _ q1) h4,k _ H2 F2 Lk ?_⟩;obtain⟨b1,b2⟩:=v3 ks (a3.mono Lk.g9);cases hv:tf aW ks with
  |none=>rw[b2 hv];exact q2
  |some d'=>obtain⟨v,c1,c2⟩:=b1 d' hv;rw[c1];exact c2
def Bo(i:Nat)(fk:EF):EF:=fun η=>(dT i η).bind fun aW=>(fk η).bind fun k=>(GK k).bind fun ks=>tf aW ks
theorem Mx(hu:X.A.units+1<cLine)(i:Nat){ek:Expr}(hk:DB X z ek fk)(hN:X.N[i]?=some x:=by rfl)(hv:Am X.env.scope x:=by first|exact Or.inl rfl|exact Or.inr (Or.inl rfl)|exact Or.inr (Or.inr rfl))(hs:PN ek:=by intro _ _;rfl)(lU:(x==("__debug__":Str))=false:=by decide)(ji:(x==("__classdict__":Str))=false:=by decide):DE X z (.Subscript (.Name x px) ek pos) (Bo i fk) :=
  PE.weak (LW hu (jj hN hv lU ji) hk hs) fun σ H Q ⟨η,F,d,r,e,k⟩=>by
  unfold Bo at e;obtain⟨aW,h1,e⟩:=eS.mp e;obtain⟨kd,h2,e⟩:=eS.mp e;obtain⟨ks,h4,e⟩:=eS.mp e;obtain⟨p,ws,a1,a2,a3⟩:=JB r h1;refine⟨_,a1,η,F,kd,r,h2,fun y H1 F1 g1 q1=>?_⟩;obtain⟨v,c1,c2⟩:=(v3 ks (a3.mono g1.g9)).1 d e;refine⟨p,v,rfl,?_,k _ H1 F1 g1 c2⟩;rw[←c1];exact EX (F:=F1) (EW g1.ent a2) q1 h4
def v5(i:Nat):EF:=fun η=>(dT i η).map fun aW=>.int aW.length
theorem JF(i:Nat)(hg:Gl X "len")(hm:X.mg "len"=none)(hN:X.N[i]?=some x:=by rfl)(hv:Am X.env.scope x:=by first|exact Or.inl rfl|exact Or.inr (Or.inl rfl)|exact Or.inr (Or.inr rfl))(hs:starEach [.Name x px] X.env=(false,eval (.Name x px) X.env)::starEach [] X.env:=by rfl)(lU:(x==("__debug__":Str))=false:=by decide)(ji:(x==("__classdict__":Str))=false:=by decide):DE X z (.Call (.Name "len" p) [.Name x px] [] pos) (v5 i) :=
  PE.weak (iQ Gk hg hm lA (cF (jj hN hv lU ji) gC hs) (by decide) (by decide) hs rfl) fun σ H Q ⟨η,F,d,r,e,k⟩=>by
  unfold v5 at e;obtain⟨aW,h1,rfl⟩:=pv.mp e;obtain⟨q,ws,a1,a2,a3⟩:=JB r h1;refine⟨_,a1,q,ws,rfl,a2,k _ H F (bu.refl r.base) (aO.mpr ?_)⟩;rw[tj a3]
def tm(i:Nat)(fk fv:EF):SF:=fun η=>(fv η).bind fun v=>(fk η).bind fun k=>(GK k).bind fun ks=>match η[i]? with
  |some (some (.ot aW))=>if aW.length<10000 then some (.nx (η.set i (some (.ot (putD aW ks v))))) else none
  |_=>none
theorem Bp(hu:X.A.units+1<cLine)(i:Nat){ek ev:Expr}(hk:DB X z ek fk)(hw:DE X z ev fv)(hN:X.N[i]?=some x:=by rfl)(hv:Am X.env.scope x:=by first|exact Or.inl rfl|exact Or.inr (Or.inl rfl)|exact Or.inr (Or.inr rfl))(hs:swapsWith ev (some (.Subscript (.Name x px) ek pos')) pos.line X.env=pure false:=by rfl)(lU:(x==("__debug__":Str))=false:=by decide)(ji:(x==("__classdict__":Str))=false:=by decide):DS X z (.Assign [.Subscript (.Name x px) ek pos'] ev pos) (tm i fk fv) :=
  PS.weak (LX hu (jj hN hv lU ji) hk hw hs) fun D σ H ⟨η,F,o,r,e,k⟩=>by
  unfold tm at e;obtain⟨dv,h1,e⟩:=eS.mp e;obtain⟨kd,h2,e⟩:=eS.mp e;obtain⟨ks,h3,e⟩:=eS.mp e;split at e
  · rename_i aW h;by_cases hl:aW.length<10000
    · rw[bR hl] at e;cases e;refine⟨η,F,dv,r,h1,fun v H1 F1 g1 q1=>?_⟩;have r1:=r.grow g1;obtain⟨p,o,a1,a2,a3,a4,ws,rfl,a5⟩:=r1.ownAt h rfl;refine⟨_,a1,η,F1,kd,r1,h2,fun y H2 F2 g2 q2=>?_⟩;have r2:=r1.grow g2;have Vl:=g2.ent _ _ a4;have hlw:ws.length<10000:=by rw[←tj a5];exact hl
      cases kd with
      |tup ds=>obtain⟨a,vs,rfl,b1,b2⟩:=aR.mp q2;rw[vY b2 h3] at b1;refine⟨p,_,rfl,Io.t Vl b1 (jY hlw (CP (cN _))),?_⟩;refine k _ _ F2 (r2.write h rfl a1 ⟨putK ws ks v,rfl,JA ks (a5.mono g2.g9) (bT g2.g9 _ _ q1)⟩ ?_) (g1.g9.trans g2.g9);have:=nO ws ks v;exact qG this (CP (by omega))
      |_=>cases h3
    ·rw[bS hl] at e;cases e
  ·cases e
theorem Qp{t:TS}(h:PS X st t):PS X st (fun D σ H=>∃d aW,H d=some (.dT aW)∧∀o,t D σ (upd H d (.pM o (.dT aW)))):=fun pins s σ H D I ⟨d,aW,hd,k⟩=>by obtain⟨o,_,I2⟩:=I.freeze hd;exact h pins s σ _ D I2 (k o)
def JG(i:Nat)(g:SF):SF:=fun η=>match η[i]? with
  |some (some (.ot aW))=>g (η.set i (some (.ft aW)))
  |_=>none
theorem My(i:Nat)(h:DS X z st g):DS X z st (JG i g):=PS.weak (Qp h) fun D σ H ⟨η,F,o,r,e,k⟩=>by
  unfold JG at e;split at e
  ·rename_i aW hh;obtain⟨p,o',a1,a2,a3,a4,ws,rfl,a5⟩:=r.ownAt hh rfl;refine⟨p,ws,a4,fun ob=>?_⟩;have EB:cq F (upd F p (.pM ob (.dT ws))):=fq a3 _;obtain⟨r1,s1⟩:=r.L8 (sl':=.ft aW) (o':=.pM ob (.dT ws)) hh rfl a1 (show pR (.dT ws) from r.base.AY _ _ a4) rfl rfl ⟨p,ob,ws,rfl,aI,a5.mono EB⟩;exact⟨_,_,o,r1,e,k.mono s1⟩
  ·cases e
theorem JH{l:Expr}{tl:TE}(hl:PE X l tl):PI X (.Name x px) l (fun σ H R=>tl σ H fun v H1=>∃d o aW,v=.ref d∧H1 d=some (.pM o (.dT aW))∧R (Itd d o aW) H1):=by
  intro pins s σ H R I h;refine fW (hl pins s σ H _ I h) fun v s1 ⟨x,H1,I1,r1,q1⟩=>?_;obtain⟨d,o,aW,e,hd,q⟩:=q1;subst e;cases r1;obtain⟨h0,z,y,xs,r,o',es,ep,h1,h2,h3,h4,h5⟩:=(show bU X.prog X.w H1 s1.heap d (.pM o (.dT aW)) from I1.cf d _ hd)
  rw[h1] at h0;cases h0;have hn:es.size=aW.length:=by have e1:=hJ List.length h4;rw[dX,Aq] at e1;rw[e1,Paired.length r]
  refine uA y ⟨_,h1,h2,h3⟩ ?_;refine⟨s1.heap.objs.size,[s1.heap.objs.size],_,_,_,rfl,I1.kept (t':=s1.toks) fun b o e=>nE _ e,Gj d _ _ aW es ep h2 h3 hn,⟨_,lO _ rfl,rfl,rfl⟩,fun b hb=>?_,q⟩;have e:b=s1.heap.objs.size:=by simpa using hb
  subst e;exact I1.yV (cN _) (I1.cf.fresh (cN _))
def zG(i:Nat):LF:=fun η=>match η[i]? with
  |some (some (.ft aW))=>some (aW.map fun kv=>.tup (kv.1.map GL))
  |_=>none
theorem JJ(i:Nat){y:Str}{py:Pos}(hN:X.N[i]?=some x:=by rfl)(hv:Am X.env.scope x:=by first|exact Or.inl rfl|exact Or.inr (Or.inl rfl)|exact Or.inr (Or.inr rfl))(lU:(x==("__debug__":Str))=false:=by decide)(ji:(x==("__classdict__":Str))=false:=by decide):DI X z (.Name y py) (.Name x px) true (zG i):=PI.weak (JH (jj hN hv lU ji)) fun σ H R ⟨η,F,ds,r,e,k⟩=>by
  unfold zG at e;split at e
  · rename_i aW h;cases e;obtain⟨v,a1,p,ob,ws,rfl,a4,a5⟩:=r.at_ i _ h;refine⟨_,a1,p,ob,ws,rfl,r.base.sub _ _ a4,k _ H F (bu.refl r.base) ?_⟩;have ll:=tj a5;have hw:ws.length≤sizeLine:=show pR (.pM ob (.dT ws)) from r.base.AY _ _ (r.base.sub _ _ a4)
    refine⟨fun F' H' s g i hi=>⟨g.base.sub _ _ (s _ _ a4),by rw[←ll];simpa using hi⟩,fun F' H' s g i d x Gz e y=>?_,fun F' H' s g=>⟨g.base.sub _ _ (s _ _ a4),by rw[dX,ll];exact cN _⟩,by rw[dX,ll];exact hw⟩;obtain⟨rfl,kk,v,b,h1,rfl,h2⟩:=y;refine⟨F',bu.refl g.base,?_⟩;rw[nI] at e;obtain⟨kv,e1,rfl⟩:=pv.mp e;obtain⟨q,hq,hkv⟩:=oO a5 e1;rw[h1] at hq;cases hq;have hk:kv.1=kk:=hkv.1;rw[hk];exact aR.mpr ⟨b,_,rfl,g.base.tup _ _ h2 rfl,vZ _⟩
  ·cases e
def Mz(i:Nat)(fk fv:EF):SF:=fun η=>(fv η).bind fun v=>(fk η).bind fun k=>match η[i]?,k with
  |some (some (.ol ds)),.int n=>(Lg ds.length n).map fun j=>.nx (η.set i (some (.ol (ds.set j v))))
  |_,_=>none
theorem Qq(i:Nat){ek ev:Expr}(hk:DB X z ek fk)(hw:DE X z ev fv)(hN:X.N[i]?=some x:=by rfl)(hv:Am X.env.scope x:=by first|exact Or.inl rfl|exact Or.inr (Or.inl rfl)|exact Or.inr (Or.inr rfl))(hs:swapsWithSole [.Subscript (.Name x px) ek pos'] ev pos.line X.env=pure false:=by rfl)(IC:swappedStores [.Subscript (.Name x px) ek pos'] ev X.env=pure none:=by rfl)(h1:(assignEach [.Subscript (.Name x px) ek pos'] X.env).map (·.2)=[assign (.Subscript (.Name x px) ek pos') X.env]:=by rfl)(ha:∀v,assign (.Subscript (.Name x px) ek pos') X.env v=(do
      let ov ←holding [v] (eval (.Name x px) X.env)
      let iv ←holding [v,ov] (eval ek X.env)
      standAt pos'
      holding [v,ov,iv] (setItem ov iv v)
      release [v,ov,iv] []):=by intro _;rfl)(lU:(x==("__debug__":Str))=false:=by decide)(ji:(x==("__classdict__":Str))=false:=by decide):DS X z (.Assign [.Subscript (.Name x px) ek pos'] ev pos) (Mz i fk fv) :=
  PS.weak (O1 hw (O0 (jj hN hv lU ji) hk set_list ha) hs IC h1) fun D σ H ⟨η,F,o,r,e,k⟩=>by
  unfold Mz at e;obtain⟨dv,h1,e⟩:=eS.mp e;obtain⟨kd,h2,e⟩:=eS.mp e;split at e
  ·rename_i ds n h;obtain⟨j,h3,rfl⟩:=pv.mp e;refine⟨η,F,dv,r,h1,fun v H1 F1 g1 q1=>?_⟩;have r1:=r.grow g1;obtain⟨p,o,a1,a2,a3,a4,ws,rfl,a5⟩:=r1.ownAt h rfl;refine⟨_,a1,η,F1,_,r1,h2,fun y H2 F2 g2 q2=>?_⟩;have r2:=r1.grow g2;have Vl:=g2.ent _ _ a4;refine⟨p,ws,n,j,rfl,aO.mp q2,Vl,by rw[←bh a5];exact h3,?_⟩;refine k _ _ F2 (r2.write h rfl a1 ⟨ws.set j v,rfl,AX j (bG g2.g9 _ _ a5) (bT g2.g9 _ _ q1)⟩ ?_) (g1.g9.trans g2.g9);show(ws.set j v).length≤sizeLine;rw[List.length_set];exact g2.base.AY _ _ Vl
  ·cases e
end
end DL
namespace DL
open PySem L2
theorem Xg{K:PySem.W.Frag}{base:Heap}{ps:g7}:dw P w K mg base kY k f fd ps (dS K ms (fun _=>none)) where
  len:=fun vs H Q E h=>by obtain⟨F,ds,r,_,_,e,_⟩:=h;cases e
  run:=fun A outer s H args us vs Q E hr he hb hv hs=>by obtain⟨F,ds,r,_,_,e,_⟩:=hs;cases e
theorem qj(i j:Int):jQ (.int i) (.int j)=some (.int (i+j)):=rfl
theorem Qr(i j:Int):zt (.int i) (.int j)=some (.int (i-j)):=rfl
theorem Qs{i:Int}(h:mulC i j=true):xG (.int i) (.int j)=some (.int (i*j)):=bR h
theorem div_ii{i:Int}(h:divC i j=true):CQ (.int i) (.int j)=some (.int (i / j)):=bR h
theorem lC{i:Int}(h:pH i j=true):mO (.int i) (.int j)=some (.int (i%j)):=bR h
theorem Qt{i:Int}(h:powC i j=true):Jf (.int i) (.int j)=some (.int (i^j.toNat)):=bR h
theorem Qu{i:Int}(h:powC i j=true):Qg (.int i) (.int j)=some (.int (i*2^j.toNat)):=bR h
theorem yn(i j:Int):Gy (.int i) (.int j)=some (.bl (decide (i<j))):=rfl
theorem EY(i j:Int):Mj (.int i) (.int j)=some (.bl (decide (j<i))):=rfl
theorem Tc(ds:eY)(i:Int):jd (.lst ds) (.int i)=pE ds i:=rfl
theorem MA(ds:eY)(i:Int):jd (.tup ds) (.int i)=pE ds i:=rfl
theorem De{i:Int}(h1:-(2^64)<j)(h2:j<2^64):mulC i j=true:=by unfold mulC;exact km (.inr ⟨h1,h2⟩)
theorem JK{i:Int}(h1:-(2^64)<i)(h2:i<2^64):mulC i j=true:=by unfold mulC;exact km (.inl ⟨h1,h2⟩)
theorem Qv{i:Int}(h:0<j):pH i j=true:=by unfold pH;exact km h
theorem rE{n:Int}{ms:bD}{S:D}(h:fu S=some (ms.map D.int)):inD false (.int n) S=some (.bl (ms.contains n)):=by unfold inD;rw[h];simp only[Hz,cC,sV,gT];rw[vx];rfl
theorem Bq{n:Int}{ms:bD}{S:D}(h:fu S=some (ms.map D.int)):inD true (.int n) S=some (.bl (!ms.contains n)):=by unfold inD;rw[h];simp only[Hz,cC,sV,gT];rw[vx];rfl
theorem aV{g1 g2:SF}{η':cD}(h:g1 η=some (.nx η')):bH g1 g2 η=g2 η':=by unfold bH;rw[h];rfl
theorem mQ{g1 g2:SF}{r:Slot}(h:g1 η=some (.rt r)):bH g1 g2 η=some (.rt r):=by unfold bH;rw[h];rfl
theorem cB{f:EF}(h:f η=some d):dm i f η=some (.nx (η.set i (some (.sh d)))):=by unfold dm;rw[h];rfl
theorem uS{f:LF}{d:eY}(h:f η=some d):ni i f η=some (.nx (η.set i (some (.ol d)))):=by unfold ni;rw[h];rfl
theorem jR{f:EF}(h:f η=some d):d5 f η=some (.rt (.sh d)):=by unfold d5;rw[h];rfl
theorem j5{f:LF}{d:eY}(h:f η=some d):pT f η=some (.rt (.ol d)):=by unfold pT;rw[h];rfl
theorem n5{t:TF}{g1 g2:SF}(h:t η=some true):kD t g1 g2 η=g1 η:=by unfold kD;rw[h];rfl
theorem kG{t:TF}{g1 g2:SF}(h:t η=some false):kD t g1 g2 η=g2 η:=by unfold kD;rw[h];rfl
theorem tq{l:LF}{b:BF}{g:SF}(h:l η=some ds):md l b g η=jm b g ds η:=by unfold md;rw[h];rfl
theorem dU{g:SF}{r:Slot}(h:g (dA n ms ds)=some (.rt r)):kQ n ms g ds=some r:=by unfold kQ;rw[h]
theorem MB(ns:bD)(lo hi:Option Int):cutD (ns.map D.int) lo hi=((ns.drop (HT.qK ns.length 0 lo)).take (HT.qK ns.length ns.length hi-HT.qK ns.length 0 lo)).map D.int:=by unfold cutD;rw[dX,←List.map_drop,←List.map_take]
theorem rF{b:BF}{g:SF}(P:Nat→cD→Prop):∀{ds:eY} {η:cD} (n:Nat),P n η→(∀(i:Nat) d η,ds[i]?=some d→P (n+i) η→∃η1 η2,b d η=some η1∧(g η1=some (.nx η2)∨g η1=some (.ct η2))∧P (n+i+1) η2)→∃η',jm b g ds η=some (.nx η')∧P (n+ds.length) η'
  |[],η,n,h0,_=>⟨η,rfl,h0⟩
  |d::ds,η,n,h0,hs=>by
   obtain⟨η1,η2,h1,h2,h3⟩:=hs 0 d η rfl h0;obtain⟨η',h4,h5⟩:=rF P (ds:=ds) (η:=η2) (n+1) h3 (fun i d η hd hp=>by
     have e:n+1+i=n+(i+1):=by omega
     rw[e] at hp⊢;exact hs (i+1) d η (by simpa using hd) hp)
   refine⟨η',?_,by rw[xr,show n+(ds.length+1)=n+1+ds.length by omega];exact h5⟩;unfold jm;rw[h1];rcases h2 with h2|h2<;>(simp only[cC,h2];exact h4)
theorem tu{α β:Type}{b:BF}{g:SF}(q:α→D)(E:β→cD→Prop)(step:β→α→β):∀{xs:List α} {η:cD} (s:β),E s η→(∀x∈xs,∀s η,E s η→∃η1 η2,b (q x) η=some η1∧g η1=some (.nx η2)∧E (step s x) η2)→∃η',jm b g (xs.map q) η=some (.nx η')∧E (xs.foldl step s) η'
  |[],η,s,h0,_=>⟨η,rfl,h0⟩
  |x::xs,η,s,h0,hs=>by obtain⟨η1,η2,h1,h2,h3⟩:=hs x hI s η h0;obtain⟨η',h4,h5⟩:=tu q E step (xs:=xs) (η:=η2) (step s x) h3 (fun y hy=>hs y (h9 _ hy));refine⟨η',?_,h5⟩;rw[gy];unfold jm;rw[h1];simp only[cC,h2];exact h4
theorem iL{α:Type}{b:BF}{t:TF}{f:EF}{η:cD}(q:α→D)(p:α→Bool)(h:α→D):∀{xs:List α},(∀x∈xs,∃η1,b (q x) η=some η1∧t η1=some (p x)∧(p x=true→f η1=some (h x)))→fA b t f (xs.map q) η=some ((xs.filter p).map h)
  |[],_=>rfl
  |x::xs,hs=>by
   obtain⟨η1,h1,h2,h3⟩:=hs x hI;have ih:=iL q p h (xs:=xs) (fun y hy=>hs y (h9 _ hy));rw[gy];unfold fA;rw[h1];simp only[cC,h2];cases hp:p x with
   |true=>rw[bR rfl,h3 hp,ih,List.filter_cons,bR hp];rfl
   |false=>rw[bS (by simp),ih,List.filter_cons,bS (by simp[hp])]
theorem gf{α:Type}{b:BF}{t:TF}{f:EF}(q:α→D)(h:α→D){xs:List α}(hs:∀x∈xs,∃η1,b (q x) η=some η1∧t η1=some true∧f η1=some (h x)):fA b t f (xs.map q) η=some (xs.map h):=by
  have:=iL (b:=b) (t:=t) (f:=f) (η:=η) q (fun _=>true) h (xs:=xs) (fun x hx=>by
    obtain⟨η1,h1,h2,h3⟩:=hs x hx;exact⟨η1,h1,h2,fun _=>h3⟩)
  rw[this,List.filter_eq_self.mpr (fun _ _=>rfl)]
theorem gK(lo:Int)(n:Nat):cA lo n=((List.range n).map fun(i:Nat)=>lo+(i:Int)).map D.int:=by unfold cA;rw[ko];rfl
theorem zH:∀(ds:eY) (n:Nat),D.Jn ds n=ds.all fun d=>d.jn n
  |[],n=>by rw[D.Jn];rfl
  |d::ds,n=>by rw[D.Jn,zH ds n,pX]
theorem JL(ds:eY)(n:Nat):(D.tup ds).jn (n+1)=ds.all fun d=>d.jn n:=by rw[D.jn,zH]
theorem Qw(ds:eY)(n:Nat):(D.lst ds).jn (n+1)=ds.all fun d=>d.jn n:=by rw[D.jn,zH]
theorem JM(i:Int)(n:Nat):(D.int i).jn n=true:=by rw[D.jn]
theorem MC(ns:bD)(n:Nat):(ns.map D.int).all (fun d=>d.jn n)=true:=by rw[List.all_map,List.all_eq_true];exact fun i _=>JM i n
theorem Br(h:(D.lst ds).jn 8=true):jf (.lst ds) (.lst ds)=some (.bl true):=by unfold jf;rw[bS (by simp[Dc,Hz]),bR (by simp[GC,h]),rA _ 8 h]
theorem jC(a b:Int):jf (.int a) (.int b)=some (.bl (a==b)):=by unfold jf;rw[bR (by rfl),e9]
theorem MD(a b:Int):xI (.int a) (.int b)=some (.bl (!(a==b))):=by unfold xI;rw[bR (by rfl),e9]
theorem Qx(a b:Bool):xI (.bl a) (.bl b)=some (.bl (!(a==b))):=by unfold xI;rw[bR (by rfl),e9]
end DL
namespace NS
open PySem PySem.Spec
def tb(led:Bool)(S:List Nat):SetTable:={ mask:=if S.length<5 then 7 else 31,place:=S.toArray,dummies:=#[],finger:=0,led:=led,moves:=if S.length<5 then 0 else 1,plain:=true }
def tp(led:Bool)(S T:List Nat):SetTable:={ mask:=if S.length<5 then 7 else 31,place:=T.toArray,dummies:=#[],finger:=0,led:=led,moves:=if S.length<5 then 0 else 1,plain:=true }
end NS
namespace NS
open PySem PySem.Spec PySem.Calls
open PyProof.Rows hiding St pairAt
abbrev Td(a:Addr)(h h':Heap):Prop:=∀b o,b≠a→h.get? b=some o→h'.get? b=some o
structure acD (prog:Program) (w:World) (U:Nat) (items:Array Value) (S:Addr) (J:Nat→Heap→Prop):Prop where
  mF:∀i I h h',S<I→J i h→Td I h h'→J i h'
  add:∀(B:Around) i v (s:Shared) (Q:Bool→Shared→Prop) (E:kX),B.units≤U→items[i]?=some v→J i s.heap →
    (∀r h' tk,Td S s.heap h'→J (i+1) h'→Q r { s with heap:=h',toks:=tk })→wpAny (model prog w) B (setAdd S v) Q E s
structure acE (prog:Program) (w:World) (B:Around) (items:Array Value) (S I:Addr) (K:Nat→Heap→Prop):Prop where
  mF:∀i h h',K i h→Td S h h'→K i h'
  item:∀i v (s:Shared) (Q:fV→Shared→Prop) (E:kX),items[i]?=some v→K i s.heap→(∀h',K (i+1) h'→Td I s.heap h'→Q (some v) { s with heap:=h' })→wpAny (model prog w) B (pyNext (.ref I)) Q E s
  done:∀(s:Shared) (Q:fV→Shared→Prop) (E:kX),K items.size s.heap→(∀h',Td I s.heap h'→Q none { s with heap:=h' })→wpAny (model prog w) B (pyNext (.ref I)) Q E s
end NS
namespace L4
open PySem PySem.W PyProof.Rows PySem.Calls
section
variable {prog:Program} {w:World} {A:Around} {E:kX} {κ:SortKind} {it:Array Keyed} {s:Shared} {σ:Type}
theorem JN{st t7:σ}{Q:PUnit→σ→Shared→Prop}(h:Q ⟨⟩ t7 s):kasC (model prog w) A E (set t7:StateT σ Sem PUnit) Q st s:=by unfold kasC;rw[StateT.run_set];exact cU h
end
end L4
namespace L2
open PySem PySem.Spec PyProof.Rows PySem.W L4
section
variable {prog:Program} {w:World} {A:Around} {E:kX} {s:Shared}
theorem v7{kS:Addr}{st:SortSt}{e e1:Nat}{out:dW}{P:PySem.Fin→Shared→Prop}(Xh:(arrOf st).map (·.2)=List.toArray out)(hz:out.length≤64)(hkz:ks.length≤64)(hf:failedOf st=none)(mz:a≠kS)(hk:s.heap.get? kS=some (seqObj "list" ks.toArray e))(ha:s.heap.get? a=some (seqObj "list" #[] e1))(h:∀h3 h4 ck c2,Heap.SameBut kS s.heap h3→h3.get? kS=some (seqObj "list" #[] ck)→Heap.SameBut a h3 h4→h4.get? a=some (seqObj "list" out.toArray c2)→P (.done (.ret .none)) { s with heap:=h4 }):wpAny (model prog w) A (ksk_tail a false e1 (.ref kS) st) P E s:=by
  have s1:Heap.SameBut kS s.heap (s.heap.update kS (Obj.mapSeq fun _=>(#[]:Array Value))):=Heap.SameBut.update ..;have Te:=get?_update_seq hk fun _=>(#[]:Array Value)
  have na:=(s1.2 a mz).trans ha;have few:∀{n:Nat},n≤64→n≤sizeLine:=fun q=>by rw[mD];omega
  unfold ksk_tail;simp only[Xh,hf,bne_self_eq_false,xq,mE];refine de (listUpdate_at hk rfl (de (wpAny_letGo (de (seqEpoch_at na rfl (de (listUpdate_at na rfl ?_ (pY _) (Nat.le_succ_of_le (few (by rw[iO];omega))))))))) (few (by rw[iO];omega)) (pY _));simp only[bne_self_eq_false,xq,mE];exact cU (h _ _ _ _ s1 Te (Heap.SameBut.update ..) (get?_update_seq na _))
def EZ(prog:Program)(w:World)(A:Around)(E:kX)(κ:SortKind)(lt:Nat→Nat→Bool)(ks vs:dW)(s:Shared):Prop:=∀Q:Unit×SortSt→Shared→Prop,
  (∀(p:Array Nat) (t7:SortSt),arrOf t7=p.map (kas_item (ks.toArray.zip vs.toArray))→failedOf t7=none→bE vs.length p→Up lt p vs.length→Q ((),t7) s)→wpAny (model prog w) A (sortRuns'.run (SortSt.mk' κ (ks.toArray.zip vs.toArray) #[] 7 none)) Q E s
def Xi(prog:Program)(w:World)(A:Around)(κ:SortKind)(lt:Nat→Nat→Bool)(ks:dW)(s:Shared):Prop:=∀i j (C:Bool→Shared→Prop),i<ks.length→j<ks.length→C (lt i j) s→wpAny (model prog w) A (keyLt' κ (ks.getD i Value.none) (ks.getD j Value.none)) C (fun _ _=>False) s
theorem GN{lt:Nat→Nat→Bool}(hl:ks.length=vs.length)(h2:2≤vs.length)(uP:vs.length<64)(nF:Xi prog w A κ lt ks s)(hS:jN vs.length lt):EZ prog w A E κ lt ks vs s:=by
  intro Q hQ;have hw:(kas_sort vs.length).kasWp (kas_ask prog w A κ ks) (fun p uy=>bE vs.length p∧Up lt p vs.length∧uy=s) s:=by
    refine IG (S:=fun uy=>uy=s) (lt:=lt) (n:=vs.length) (P:=bE vs.length) (fun i j C uy hi hj hs hc=>?_) _ _ (AR (by omega)) rfl (fun uy hs _=>?_)
    ·subst hs;exact nF i j C (by omega) (by omega) (hc _ rfl)
    ·obtain⟨q1,q2⟩:=Es hS h2;exact⟨q1,q2,hs⟩
  refine j4 (kat_run (ks:=ks) (vs:=vs) (Q:=fun t7 uy=>∃p:Array Nat,arrOf t7=p.map (kas_item (ks.toArray.zip vs.toArray))∧failedOf t7=none∧bE vs.length p∧Up lt p vs.length∧uy=s)
    hl h2 uP (fun p t7 uy _ e f g=>⟨p,e,f,g.1,g.2.1,g.2.2⟩) hw) ?_ fun _ _ e=>e
  rintro⟨⟨⟩,t7⟩ s' ⟨p,Xj,hf,hP,hU,rfl⟩;exact hQ p t7 Xj hf hP hU
theorem GO(vs ks:dW)(h:vs.length<2)(hl:ks.length=vs.length):((ks.toArray.zip vs.toArray).map (·.2)).toList=vs:=by
  cases vs with
  |nil=>simp
  |cons v t =>
   cases t with
   |nil=>match ks,hl with|[k],_=>simp
   |cons _ _=>simp only[xr] at h;omega
theorem GP{kS:Addr}{e e1:Nat}{lt:Nat→Nat→Bool}{P:PySem.Fin→Shared→Prop}(hl:ks.length=vs.length)(uP:vs.length≤64)(mz:a≠kS)(hk:s.heap.get? kS=some (seqObj "list" ks.toArray e))(ha:s.heap.get? a=some (seqObj "list" #[] e1))(kind:2≤vs.length→∀Q:SortKind→Shared→Prop,Q κ s→wpAny (model prog w) A (keyKind' ks.toArray) Q E s)(JQ:2≤vs.length→EZ prog w A E κ lt ks vs s)(fin:∀p h3 h4 ck c2,bE vs.length p→Up lt p vs.length→Heap.SameBut kS s.heap h3→h3.get? kS=some (seqObj "list" #[] ck)→Heap.SameBut a h3 h4→h4.get? a=some (seqObj "list" (List.toArray (p.toList.map fun i=>vs.getD i Value.none)) c2)→P (.done (.ret .none)) { s with heap:=h4 }):wpAny (model prog w) A (ksk_end a false vs.toArray e1 (.ref kS) (List.toArray ks)) P E s:=by
  unfold ksk_end
  try dsimp only
  simp only[xq,mE];by_cases h2:vs.toArray.size<2
  · rw[bR h2,bR h2];refine de (cU ?_);rw[StateT.run_pure];refine de (cU ?_);dsimp only;have La:vs.length<2:=by simpa using h2
    refine v7 (ks:=ks) (out:=(List.range vs.length).map fun i=>vs.getD i Value.none) ?_ (by simp;omega) (by omega) rfl mz hk ha fun h3 h4 ck c2 a1 a2 a3 a4=>?_
    ·show(ks.toArray.zip vs.toArray).map (·.2)=_;apply Array.toList_inj.mp;rw[nS];exact GO vs ks La hl
    ·refine fin (List.range vs.length).toArray h3 h4 ck c2 (bE.id _) (fun i j vq hj=>by omega) a1 a2 a3 ?_;simpa using a4
  · rw[bS h2,bS h2];have La:2≤vs.length:=by rw[iO] at h2;omega
    refine de (kind La _ ?_);refine de (JQ La _ fun p t7 Xj hf hP hU=>?_);dsimp only;have Qy:p.toList.length=vs.length:=by rw[Aq];exact hP.size
    refine v7 (ks:=ks) (kat_snds hl Xj) (by rw[dX,Qy];exact uP) (by omega) hf mz hk ha fun h3 h4 ck c2 a1 a2 a3 a4=>fin p h3 h4 ck c2 hP hU a1 a2 a3 a4
theorem Df{kS:Addr}{e1:Nat}{f:Value}{lt:Nat→Nat→Bool}{P:PySem.Fin→Shared→Prop}{J:Addr→Nat→dW→Nat→Shared→Prop}(uP:vs.length≤64)(j0:J kS e1 [] 0 s)(get:∀kS e1 ks c s',J kS e1 ks c s'→a≠kS∧s'.heap.get? kS=some (seqObj "list" (List.toArray ks) c)∧s'.heap.get? a=some (seqObj "list" #[] e1))(step:∀kS e1 ks c s' x,J kS e1 ks c s'→vs[ks.length]?=some x→wpAny (model prog w) A (call f [x]) (fun k uy=>uy.heap.get? kS=some (seqObj "list" (List.toArray ks) c)∧∀h2 c2,Heap.SameBut kS uy.heap h2→h2.get? kS=some (seqObj "list" (List.toArray (ks++[k])) c2)→J kS e1 (ks++[k]) c2 { uy with heap:=h2 }) (fun _ _=>False) s')(kind:∀kS e1 ks c s',J kS e1 ks c s'→ks.length=vs.length→2≤vs.length→∀Q:SortKind→Shared→Prop,Q κ s'→wpAny (model prog w) A (keyKind' (List.toArray ks)) Q E s')(JQ:∀kS e1 ks c s',J kS e1 ks c s'→ks.length=vs.length→2≤vs.length→EZ prog w A E κ lt ks vs s')(fin:∀kS e1 ks c s' p h3 h4 ck c2,J kS e1 ks c s'→ks.length=vs.length→bE vs.length p→Up lt p vs.length→Heap.SameBut kS s'.heap h3→h3.get? kS=some (seqObj "list" #[] ck)→Heap.SameBut a h3 h4→h4.get? a=some (seqObj "list" (List.toArray (p.toList.map fun i=>vs.getD i Value.none)) c2)→P (.done (.ret .none)) { s' with heap:=h4 }):wpAny (model prog w) A (ksk_rest a f false vs.toArray e1 (.ref kS)) P E s:=by
  have few:∀{n:Nat},n≤65→n≤sizeLine:=fun q=>by rw[mD];omega
  refine de (wpAny_rule ?_);rw[List.forIn_toArray];refine de (ksk_fold (fun i s'=>∃ks c,List.length ks=i∧J kS e1 ks c s') vs 0 s ⟨[],0,rfl,j0⟩ (fun j x s' hx ⟨ks,c,l,q⟩=>?_) fun s' ⟨ks,c,l,q⟩=>?_)
  ·have lj:j<vs.length:=(u0.mp hx).1;refine de (wpAny_attempt (j4 (step kS e1 ks c s' x q (by rw[l,Nat.zero_add];exact hx)) (fun k uy ⟨hk,nx⟩=>?_) fun _ _ n=>n.elim));have g:=get?_update_seq hk (·.push k);rw[List.push_toArray] at g;exact de (listUpdate_at hk rfl (cU ⟨rfl,ks++[k],_,by rw[uq,l];rfl,nx _ _ (Heap.SameBut.update ..) g⟩) (few (by rw[iO];omega)) (Nat.le_succ_of_le (few (by rw[Array.size_push,iO];omega))))
  ·rw[Nat.zero_add] at l;obtain⟨ne,hk,ha⟩:=get _ _ _ _ _ q;exact de (listItems_at hk rfl (GP l uP ne hk ha (fun h2=>kind _ _ _ _ _ q l h2) (JQ _ _ _ _ _ q l) fun p h3 h4 ck c2 b1 b2 b3 b4 b5 b6=>fin _ _ _ _ _ p h3 h4 ck c2 q l b1 b2 b3 b4 b5 b6))
theorem Dg{f:Value}{lt:Nat→Nat→Bool}{P:PySem.Fin→Shared→Prop}{J:Addr→Nat→dW→Nat→Shared→Prop}(ho:s.heap.get? a=some (seqObj "list" vs.toArray n))(uP:vs.length≤64)(init:∀kS e1 h',a≠kS→s.heap.objs.size≤kS→h'.get? kS=some (seqObj "list" #[] 0)→h'.get? a=some (seqObj "list" #[] e1)→(∀b o,b≠a→s.heap.get? b=some o→h'.get? b=some o)→J kS e1 [] 0 { s with heap:=h' })(get:∀kS e1 ks c s',J kS e1 ks c s'→a≠kS∧s'.heap.get? kS=some (seqObj "list" (List.toArray ks) c)∧s'.heap.get? a=some (seqObj "list" #[] e1))(step:∀kS e1 ks c s' x,J kS e1 ks c s'→vs[ks.length]?=some x→wpAny (model prog w) A (call f [x]) (fun k uy=>uy.heap.get? kS=some (seqObj "list" (List.toArray ks) c)∧∀h2 c2,Heap.SameBut kS uy.heap h2→h2.get? kS=some (seqObj "list" (List.toArray (ks++[k])) c2)→J kS e1 (ks++[k]) c2 { uy with heap:=h2 }) (fun _ _=>False) s')(kind:∀kS e1 ks c s',J kS e1 ks c s'→ks.length=vs.length→2≤vs.length→∀Q:SortKind→Shared→Prop,Q κ s'→wpAny (model prog w) A (keyKind' (List.toArray ks)) Q E s')(JQ:∀kS e1 ks c s',J kS e1 ks c s'→ks.length=vs.length→2≤vs.length→EZ prog w A E κ lt ks vs s')(fin:∀kS e1 ks c s' p h3 h4 ck c2,J kS e1 ks c s'→ks.length=vs.length→bE vs.length p→Up lt p vs.length→Heap.SameBut kS s'.heap h3→h3.get? kS=some (seqObj "list" #[] ck)→Heap.SameBut a h3 h4→h4.get? a=some (seqObj "list" (List.toArray (p.toList.map fun i=>vs.getD i Value.none)) c2)→P (.done (.ret .none)) { s' with heap:=h4 }):wpAny (model prog w) A (ksk_tree a f false) P E s:=by
  have em:=get?_update_seq ho fun _=>(#[]:Array Value)
  have few:vs.length≤sizeLine:=by rw[mD];omega
  have z:((s.heap.update a (Obj.mapSeq fun _=>(#[]:Array Value))).push (seqObj "tuple" vs.toArray 0)).objs.size=s.heap.objs.size+1:=(size_push' ..).trans (hJ (·+1) (Heap.size_update ..));refine de (listItems_at ho rfl (de (listUpdate_at ho rfl (de (seqEpoch_at em rfl (de (wpAny_newTuple (de (wpAny_newList (uw ?_) (pY _))) few)))) few (pY _))));refine Df (J:=J) (κ:=κ) (lt:=lt) uP (init _ _ _ ?_ ?_ (lO _ rfl) (nE _ (nE _ em)) fun b o n e=>nE _ (nE _ ((Heap.get?_update_ne _ _ _ _ n).trans e))) get step kind JQ fin
  ·exact fun e=>iP (Nat.lt_succ_of_lt (dR ho)) (e.trans z)
  ·exact Nat.le_of_lt (z.symm▸Nat.lt_succ_self _)
end
section
variable {X:Cx} {pins:jc} {σ:St} {H:Hp} {s:Shared} {D:Addr} {o:HO}
theorem Inv.adopt(I:Inv X pins σ H s)(f:je X pins H D)(h0:X.s₀.heap.objs.size≤D)(new:bU X.prog X.w (upd H D o) s.heap D o):Inv X pins σ (upd H D o) s where
  ok:=I.ok
  os:=I.os
  bare:=I.bare
  base :=
    { keep:=I.base.keep
      slot:=I.base.slot
      free:=fun b u q n hx=>by rw[ay (iP (jY (dR q) h0))];exact I.base.free b u q n hx
      there:=I.base.there
      mG:=fun b xs q=>by have:=I.base.mG b xs q;rw[ay (bp this f.1)];exact this
      pB:=fun b u xs q=>by have:=I.base.pB b u xs q;rw[ay (bp this f.1)];exact this
      pC:=fun b ps q=>by obtain⟨m,e⟩:=I.base.pC b ps q;exact⟨m,by rw[ay (bp e f.1)];exact e⟩ }
  loc:=I.loc
  cell:=I.cell
  free:=by rw[ay (fun z=>f.2.1 z.symm)];exact I.free
  g8:=fun x c e=>by rw[ay (f.2.2.2.2.1 x c e)];exact I.g8 x c e
  pin:=fun p hp=>by obtain⟨a1,a2,a3⟩:=I.pin p hp;exact⟨a1,by rw[ay (f.2.2.2.2.2 p hp)];exact a2,a3⟩
  cf:=fun b u e=>by
    by_cases hb:b=D
    ·subst hb;rw[aI] at e;cases e;exact new
    ·rw[ay hb] at e;exact(I.cf b u e).mF (fun c v _ q=>q) (fun c q=>by rw[ay (bp q f.1)];exact q) (fun c xs q=>by rw[ay (bp q f.1)];exact q) fun c q' r=>by rw[ay (bp r f.1)];exact r
  len:=I.len
theorem Inv.Bs(I:Inv X pins σ H s){ob:Obj}(f:je X pins H a)(ho:s.heap.get? a=some ob)(hc:∀v,ob.data≠.cell v):Inv X ((a,ob)::pins) σ H s:=by
  refine⟨I.ok,I.os,I.bare,I.base,I.loc,I.cell,I.free,I.g8,fun p hp=>?_,I.cf,I.len⟩;rcases sI.mp hp with q|q
  ·exact I.pin p (List.mem_append_left _ q)
  · rcases gB.mp q with rfl|q
    ·exact⟨ho,f.1,f.2.1,f.2.2.1,hc⟩
    ·exact I.pin p (kR _ q)
theorem Inv.zI{q:Addr×Obj}(I:Inv X (q::pins) σ H s):Inv X pins σ H s:=by
  refine⟨I.ok,I.os,I.bare,I.base,I.loc,I.cell,I.free,I.g8,fun p hp=>I.pin p ?_,I.cf,I.len⟩;rcases sI.mp hp with z|z
  ·exact List.mem_append_left _ z
  ·exact kR _ (h9 _ z)
end
end L2
namespace DL
open PySem PySem.Spec L2 PySem.W L4
open PyProof.Rows hiding St pairAt
section
variable {X:Cx} {pins:jc} {σ:St} {H:Hp} {s:Shared}
theorem je.re(f:je X pins H b)(hn:H' b=none):je X pins H' b:=⟨hn,f.2⟩
theorem tD{xs:Array Value}:∀v,(seqObj "list" xs n).data≠.cell v:=fun v z=>by cases z
end
end DL
namespace L2
open PySem PySem.Spec PyProof.Rows PySem.W L4
section
variable {prog:Program} {w:World} {A:Around} {E:kX} {s:Shared}
theorem Bt{fin:Bool}{Q:Bool→Shared→Prop}:∀{ns ms:bD} {xs ys:dW} (i:Nat),Vals (ns.map V.int) xs→Vals (ms.map V.int) ys→fin=decide (ns.length<ms.length)→Q (HT.lexLt ns ms) s→KatLex prog w A true fin Q (xs.zip ys) i s
  |[],[],_,_,i,.nil,.nil,hf,h=>kat_nil (by rw[hf];exact h)
  |[],m::ms,_,_,i,.nil,.cons _ _,hf,h=>kat_nil (by rw[hf];exact h)
  |n::ns,[],_,_,i,.cons _ _,.nil,hf,h=>kat_nil (by rw[hf];exact h)
  |n::ns,m::ms,_,_,i,.cons rx tx,.cons ry ty,hf,h=>by
   obtain⟨t,rfl⟩:=rx;obtain⟨u,rfl⟩:=ry;rw[HT.kr] at h;refine kat_cons (SeqAt.EqAt.int_int _ _ _ _ _ _ _ _ (kat_go (fun e=>kat_yes ?_) (fun e=>kat_no ?_)))
   · have e':n=m:=by simpa using e
     rw[bR e'] at h;exact Bt (i+1) tx ty (by rw[hf];simp) h
   · have e':¬ n=m:=by simpa using e
     rw[bS e'] at h;cases hi:(true&&i==0) with
     |true=>exact oneLt_int h
     |false=>exact kat_one _ _ (PyProof.Rows.lt_int h)
end
def nq(H:Hp)(v:V)(t:bD):Prop:=∃b,v=.ref b∧H b=some (.tup (t.map V.int))
section
variable {X:Cx}
theorem Dh(hd:ts.Nodup):jN ts.length (fun i j=>HT.lexLt (ts.getD i []) (ts.getD j [])) where
  tr:=fun i j k _ _ _ h1 h2=>qR h1 h2
  SW:=fun i j hi hj mz h=>oP (fun q=>mz (by
    rw[pw,pw,nH hi,nH hj] at q;exact(List.getElem_inj hd).mp q)) h
end
end L2
namespace DL
open PySem PySem.Spec L2 PySem.W L4
open PyProof.Rows hiding St pairAt
section
variable {X:Cx} {z:Zc} {e a b:Expr} {f fa fb:EF} {pos p p' pos' py kp:Pos}
theorem Tf{a b:bD}:uB (0,a) (0,b)=HT.lexLt a b:=bR rfl
end
end DL
namespace DL
open PySem PySem.Spec L2
open PyProof.Rows hiding St pairAt
structure Tg (K:PySem.W.Frag) (C:Addr):Prop where
  makes:makesIn K C=true
  init:PySem.W.findIn K (.ref C) "__init__"=some (some (.builtin "object.__init__"))
  kp:keepIn K (.ref C)=true
structure Bu (K:PySem.W.Frag) (C:Addr):Prop where
  cl:HX K C
  ha:PySem.W.findIn K (.ref C) "__class__"=some (some (.builtin "object.__class__"))
  hn:PySem.W.specialIn K (.builtin "object.__class__") "__get__"=some (some (.builtin "getset_descriptor.__get__"))
  NM:PySem.W.takesIn K (.builtin "object.__class__")=some true
  hm:PySem.W.mroIn K C (.type "object")=some true
section
variable {X:Cx} {z:Zc} {e a b o:Expr} {f fa fb fk fv fo:EF} {fl fs:LF} {pos p p' pos' apos:Pos} {g:SF} {st:Stmt} {es:List Expr} {ms:List Bool} {te:TE} {C:Addr} {x m:Str}
theorem GQ{Q:VK}(M:Tg X.K C)(I:Inv X pins σ H s)(h:∀x dx,H x=none→H dx=none→dx≠x→Q (.ref x) (upd (upd H dx (.own x)) x (.ins C dx []))):wpAny (model X.prog X.w) X.A (call (.ref C) []) (EP X pins σ Q) X.xe s:=by
  have hq:=h (s.heap.objs.size+1) s.heap.objs.size (I.cf.fresh (Nat.le_succ _)) (I.cf.fresh (cN _)) (iP (Nat.lt_succ_self _));have I2:=Inv.made (C:=C) I;have Y:=makes_of (M:=model X.prog X.w) I.qI M.makes;refine wpAny_call (FY I.qI M.makes M.init (fun self=>PySem.W.Looks.of_pure (PySem.W.oi_bind self)) ?_);have hx:((s.heap.push emptyDict).push (instObj C s.heap.objs.size)).get? (s.heap.objs.size+1)=some (instObj C s.heap.objs.size):=by have:=lO (s.heap.push emptyDict) (o:=instObj C s.heap.objs.size) rfl;rwa[Heap.size_push] at this
  have t1:PySem.W.Looks (model X.prog X.w) ((s.heap.push emptyDict).push (instObj C s.heap.objs.size)) (typeOf (.ref (s.heap.objs.size+1))) (.ref C):=(PySem.W.Looks.ld hx).andThen .now;have t2:PySem.W.Looks (model X.prog X.w) ((s.heap.push emptyDict).push (instObj C s.heap.objs.size)) (isInstance (.ref (s.heap.objs.size+1)) (.type "object")) true:=t1.andThen (Y.top.keeps fun b o e=>nE _ (nE _ e));refine codeAny_call_builtin PySem.W.oi_plain PySem.W.entry_oi (@PySem.W.check_slot (model X.prog X.w) _ _ _ "object.__init__" "object" "__init__" (.ref (s.heap.objs.size+1)) [] [] _ PySem.W.oi_kind PySem.W.oi_split t2 (PySem.W.oi_args (.ref (s.heap.objs.size+1))) ?_);rw[oi_run];exact cU (And.intro rfl ⟨.ref (s.heap.objs.size+1),_,I2,rfl,hq⟩)
def zJ(C:Addr):EF:=fun _=>some (.obj C)
theorem n6(hz:gF X.K z.F₀)(M:Tg X.K C)(hg:Gl X x)(hm:X.mg x=some (.ref C))(lU:(x==("__debug__":Str))=false:=by decide):DE X z (.Call (.Name x p) [] [] pos) (zJ C):=by
  intro pins s σ H Q I ⟨η,F,d,r,e0,k⟩;cases e0;refine wpAny_Call_Name_kw (qJ I hg hm ?_ lU);refine PySem.W.callWith_K0 I.qI M.kp (GQ M I fun x dx hx hdx ne=>?_);have g1:=bu.put r.base hdx (.own x) True.intro;have Xk:(upd H dx (.own x)) x=none:=by rw[ay (Ne.symm ne)];exact hx
  have g2:=bu.put g1.base Xk (.ins C dx []) True.intro;exact k _ _ _ (g1.trans g2) (eZ.mpr ⟨x,dx,rfl,aI,(hz.mono r.mem.g9).mono (g1.trans g2).g9⟩)
def mj(tb:List (Addr×(eY→fU)))(fo:EF)(fs:LF):EF:=fun η=>(fo η).bind fun d=>match d with
  |.obj C=>(tb.lookup C).bind fun Fn=>aG Fn (ae (eC d) fs) η
  |_=>none
def JR(X:Cx)(m:Str)(ms:List Bool)(C:Addr)(Fn:eY→fU):Prop :=
  ∃f k ps,HX X.K C∧Meth X.K C m f∧gE X.prog X.w X.K X.mg X.base k f ps (dS X.K (true::ms) Fn)∧eW k X.A
def Bv(X:Cx)(m:Str)(ms:List Bool)(tb:List (Addr×(eY→fU))):Prop:=∀C Fn,tb.lookup C=some Fn→JR X m ms C Fn
theorem uT:Bv X m ms []:=fun _ _ h=>nomatch h
theorem fX{tb:List (Addr×(eY→fU))}(h:JR X m ms C Fn)(r:Bv X m ms tb):Bv X m ms ((C,Fn)::tb):=fun C' Xl q=>by
  rw[u3] at q;split at q
  ·rename_i hb;cases q;rw[qH.mp hb];exact h
  ·exact r C' Xl q
theorem JS{tb:List (Addr×(eY→fU))}{Q:VK}(hT:Bv X m ms tb)(ho:DE X z o fo)(ha:DM X z (e::es) ms fs)(FQ:starEach (e::es) X.env=(false,eval e X.env)::starEach es X.env)(jz:(backTo pos (starEach es X.env)).any (·.1)=false)(ht:eval (.Call (.Attribute o m apos) (e::es) [] pos) X.env=(do
      let ov ←eval o X.env
      standAt apos.atName
      let (f,first) ←holding [ov] (getMethod ov m pl)
      callWith pos f first (backTo pos (starEach (e::es) X.env)) (backToKw pos (keywordEach [] X.env))))(I:Inv X pins σ H s)(r:Rel X.K z F H σ η)(h1:fo η=some (.obj C))(h2:tb.lookup C=some Fn)(h3:fs η=some ds)(h4:Fn (.obj C::ds)=some sl)(k:∀H1 F1,bu F H F1 H1→yi X.K F1 H1 sl Q):wpAny (model X.prog X.w) X.A (eval (.Call (.Attribute o m apos) (e::es) [] pos) X.env) (EP X pins σ Q) X.xe s:=by
  obtain⟨f,n,ps,hc,hm,hC,hr⟩:=hT C Fn h2;obtain⟨fd,G,hb,kp⟩:=hC.ex;refine Ax ho I ⟨η,F,.obj C,r,h1,fun v H1 F1 g1 q1=>?_⟩ ht;obtain⟨a,dx,rfl,hF,_⟩:=eZ.mp q1;refine⟨a,C,dx,[],f,rfl,g1.base.sub _ _ hF,hc,hm,rfl,fun s1 I1=>?_⟩;refine callWith_K (first:=[.ref a]) (h₀:=X.base) I.ok.mod.Nx hm.kp (fW (ha pos pins s1 σ H1 (fun vs H2=>∃F2,bu F1 H1 F2 H2∧ix X.K F2 H2 ms ds vs) I1 ⟨η,F1,ds,r.grow g1,h3,fun vs H2 F2 g2 q2=>⟨F2,g2,q2⟩⟩) fun us s2 ⟨vs,H2,I2,rv,F2,g2,q2⟩=>⟨I2.qI,?_⟩) FQ jz;refine Ia (us:=.ref a::us) (vs:=.ref a::vs) (dvs:=[]) (ds:=[]) G hr hb .nil NR I2 (.cons rfl rv) ?_;show dS X.K (true::ms) Fn (.ref a::vs++[]) H2 Q E0;rw[uv];refine⟨F2,.obj C::ds,sl,g2.base,⟨bT g2.g9 _ _ q1,q2⟩,h4,k H2 F2 (g1.trans g2)⟩
theorem JT{fs:LF}(h:(ae (eC d) fs) η=some ds):∃p8,fs η=some p8∧ds=d::p8:=by
  unfold ae eC at h;simp only[cC] at h;cases q:fs η with
  |none=>rw[q] at h;cases h
  |some p8=>rw[q] at h;exact⟨p8,rfl,(kj h).symm⟩
theorem uU{tb:List (Addr×(eY→fU))}(hT:Bv X m ms tb)(ho:DE X z o fo)(ha:DM X z (e::es) ms fs)(FQ:starEach (e::es) X.env=(false,eval e X.env)::starEach es X.env:=by rfl)(jz:(backTo pos (starEach es X.env)).any (·.1)=false:=by rfl)(ht:eval (.Call (.Attribute o m apos) (e::es) [] pos) X.env=(do
      let ov ←eval o X.env
      standAt apos.atName
      let (f,first) ←holding [ov] (getMethod ov m pl)
      callWith pos f first (backTo pos (starEach (e::es) X.env)) (backToKw pos (keywordEach [] X.env))):=by rfl):DE X z (.Call (.Attribute o m apos) (e::es) [] pos) (mj tb fo fs):=by
  intro pins s σ H Q I ⟨η,F,d,r,e0,k⟩;unfold mj at e0;obtain⟨d',h1,e0⟩:=eS.mp e0;cases d' with
  |obj C =>
   obtain⟨Fn,h2,e0⟩:=eS.mp e0;unfold aG at e0;obtain⟨ds,h3,e0⟩:=eS.mp e0;obtain⟨sl,h4,e0⟩:=eS.mp e0;obtain⟨p8,h5,rfl⟩:=JT h3;refine JS (pl:=pl) hT ho ha FQ jz ht I r h1 h2 h5 h4 fun H1 F1 g1=>?_;cases sl with
   |sh d'=>cases e0;exact fun v H' F' g2 q2=>k v H' F' (g1.trans g2) q2
   |ol Ln=>cases e0;intro p vs H' F' g2 hp hF hH hd;have hs:cq F' (upd F' p (.lst vs)):=fq hF _;exact k _ _ _ ((g1.trans g2).share g2.base hH (g1.ent.free hp)) (aU.mpr ⟨p,vs,rfl,jE.of aI,bG hs _ _ hd⟩)
   |pr Ln acF=>cases e0;intro a p vs ws H' F' g2 hp hF hH hd NT hr';have hs:cq F' (upd F' p (.lst vs)):=fq hF _;exact k _ _ _ ((g1.trans g2).share g2.base hH (g1.ent.free hp)) (aR.mpr ⟨a,_,rfl,hs _ _ NT,aE.mpr ⟨_,_,rfl,aU.mpr ⟨p,vs,rfl,jE.of aI,bG hs _ _ hd⟩,bG hs _ _ hr'⟩⟩)
   |_=>cases e0
  |_=>cases e0
def MF(tb:List (Addr×Bool))(fo:EF):EF:=fun η=>(fo η).bind fun d=>match d with
  |.obj C=>(tb.lookup C).map D.bl
  |_=>none
def Fb(X:Cx)(W:Addr)(tb:List (Addr×Bool)):Prop:=∀C b,tb.lookup C=some b→Bu X.K C∧PySem.W.kitOne X.K (.ref C) (.ref W)=some b
theorem GR{W:Addr}:Fb X W []:=fun _ _ h=>nomatch h
theorem qk{W:Addr}{b:Bool}{tb:List (Addr×Bool)}(h:Bu X.K C)(hk:PySem.W.kitOne X.K (.ref C) (.ref W)=some b)(r:Fb X W tb):Fb X W ((C,b)::tb):=fun C' b' q=>by
  rw[u3] at q;split at q
  ·rename_i hb;cases q;rw[qH.mp hb];exact⟨h,hk⟩
  ·exact r C' b' q
theorem zK:lT X (.builtin "isinstance") (fun xs H Q=>∃x W t b,xs=[x,.ref W]∧pD X.K H x t∧PySem.W.kitOne X.K t (.ref W)=some b∧Q (.bl b) H):=by intro pins s σ H xs us Q I r h;obtain⟨x,W,t,b,rfl,ty,e,q⟩:=h;obtain⟨u,v,rfl,ru,rv⟩:=vals2 r;cases rv;exact x5 I ru ty e fun tk=>⟨.bl b,H,I.tok tk,rfl,q⟩
theorem Qz{tb:List (Addr×Bool)}{W:Addr}(hT:Fb X W tb)(hg:Gl X "isinstance")(hm:X.mg "isinstance"=none)(zC:Gl X x)(xJ:X.mg x=some (.ref W))(ha:DE X z e fo)(hs:starEach [e,.Name x p] X.env=(false,eval e X.env)::starEach [.Name x p] X.env:=by rfl)(yW:starEach [.Name x p] X.env=(false,eval (.Name x p) X.env)::starEach [] X.env:=by rfl)(jz:(backTo pos (starEach [.Name x p] X.env)).any (·.1)=false:=by rfl)(lU:(x==("__debug__":Str))=false:=by decide):DE X z (.Call (.Name "isinstance" p2) [e,.Name x p] [] pos) (MF tb fo) :=
  PE.weak (iQ zK hg hm jA (cF ha (cF (yS (v:=.ref W) zC xJ rfl lU) gC yW) hs) (by decide) (by decide) hs jz) fun σ H Q ⟨η,F,d,r,e,k⟩=>by
  unfold MF at e;obtain⟨d',h1,h2⟩:=eS.mp e;cases d' with
  |obj C=>obtain⟨b,h3,h4⟩:=pv.mp h2;subst h4;obtain⟨i,hk⟩:=hT C b h3;refine⟨η,F,_,r,h1,fun v H' F' g q=>?_⟩;obtain⟨a,dx,rfl,hF,_⟩:=eZ.mp q;exact⟨.ref a,W,.ref C,b,rfl,.ins (g.base.sub _ _ hF) i.cl i.ha i.hn i.NM i.hm,hk,k _ H' F' g (bK.mpr rfl)⟩
  |_=>cases h2
end
def N9(i j:Int):Prop:=i.natAbs.log2<100000∧j.natAbs.log2<100000
def Oa(_ j:Int):Prop:=0<j∧j.natAbs.log2<9000
theorem Fc{a:Int}(h:a.natAbs.log2<100000):Builtin.Int.intBits a≤2^20:=by
  have e:(2:Nat)^20=1048576:=by decide
  unfold Builtin.Int.intBits;split<;>omega
section
variable {X:Cx}
theorem MG:nK X (binaryOp .Mult) (rI N9 fun i j=>.int (i*j)):=NH fun _ _ _ _ _ _ _ hc q=>mul_int q (.of_bits (Fc hc.1) (Fc hc.2))
theorem JV:nK X (binaryOp .FloorDiv) (rI Oa fun i j=>.int (i / j)):=NH fun i j _ _ _ _ _ hc q=>by have h1:(0:Int)<j:=hc.1;exact floordiv_int (by omega) (by rw[Int.fdiv_eq_ediv_of_nonneg i (by omega)];exact q) (.inl (PyProof.noPylong_of_log2 hc.2))
end
def yo(i j:Int):Bool:=decide (i.natAbs.log2<100000∧j.natAbs.log2<100000)
def n8:=iI yo fun i j=>.int (i*j)
def yp(_ j:Int):Bool:=decide (0<j∧j.natAbs.log2<9000)
def Bw:=iI yp fun i j=>.int (i / j)
theorem JW{i:Int}(h:yo i j=true):N9 i j:=by unfold yo at h;have q:=yL h;exact q
theorem JX{i:Int}(h:yp i j=true):Oa i j:=by unfold yp at h;have q:=yL h;exact q
section
variable {X:Cx} {z:Zc} {e a b:Expr} {f fa fb fk:EF} {pos p:Pos} {K:PySem.W.Frag}
theorem mR(ha:DB X z a fa)(hb:DB X z b fb):DE X z (.BinOp a .Mult b pos) (ai n8 fa fb):=nV MG (AZ fun i j h=>JW h) ha hb
theorem Fd(ha:DB X z a fa)(hb:DB X z b fb):DE X z (.BinOp a .FloorDiv b pos) (ai Bw fa fb):=nV JV (AZ fun i j h=>JX h) ha hb
end
theorem Di{K:PySem.W.Frag}{g:Addr}{oc':Value}{od':Option Addr}{x' q':Str}{ar ar':Arguments}{b b':List Stmt}{sc sc':Scope}{kV dc cd kV' dc' pm' cd' ct':Value}{an':Option Addr}{sl sl':Array fV}(hq:q≠q')(e:(some (some (Value.ref f)))=some (some (Value.ref g)))(l:K.lookup f=some ⟨oc,od,.func (fnOf x q ar b sc .none kV dc pm an cd ct),sl⟩)(l':K.lookup g=some ⟨oc',od',.func (fnOf x' q' ar' b' sc' .none kV' dc' pm' an' cd' ct'),sl'⟩):False:=by
  cases e;have h:=l.symm.trans l';injection h with h;injection h with _ _ h _;injection h with h;exact hq (hJ FuncData.qualname h)
theorem zL{K:PySem.W.Frag}{W:Addr}{cd:ClassData}(hc:PySem.W.clsIn K W=some cd)(ht:typeIn K (.ref W)=some (.type "type"))(hs:subIn K (.ref C) (.ref W)=some true):PySem.W.kitOne K (.ref C) (.ref W)=some true:=by
  unfold PySem.W.kitOne;split
  ·rfl
  ·unfold kitCls;simp only[hc,ht,hs,Option.isSome_some,Bool.true_and,beq_self_eq_true,iq]
section
variable {X:Cx} {z:Zc} {e a b:Expr} {f fa fb fk fv:EF} {fl:LF} {pos p:Pos} {g:SF} {st:Stmt}
def dK(i:Nat)(η:cD):Option (List (Key×D)):=match η[i]? with
  |some (some (.ok aW))=>some aW
  |some (some (.fk aW))=>some aW
  |_=>none
end
end DL
namespace L2
open PySem PySem.Spec PyProof.Rows DL
theorem GU{K:PySem.W.Frag}{mb:Str→fV}{CX:Ec}{fa:Addr}{sp:Sp}{s₁:Shared}{c T:Addr}(KX:K.In s₁.heap)(Rp:s₁.heap.Ns mainGlobals mg)(hb:s₁.heap.Ns builtinsNs mb)(hbb:∀x:Str,x≠"__name__"→mb x=bootBuiltins x)(Xm:s₁.heap.NoLimit)(hg:s₁.gens=#[])(ha:s₁.heap.get? a=some { cls:=.type "list",data:=.seq vs.toArray })(hi:IntsAre vs ns)(hl:ns.length≤sizeLine)(hr:eW k callerA)(hT:s₁.heap.TableAt c T #[])(Xn:K.lookup T=none)(Vm:∀c' P,jO K=some (c',P)→P=T)(Ru:s₁.heap.BuiltinsAt mg T)(F:∀base:Heap,K.In base→base.Ns mainGlobals mg→base.BuiltinsAt mg T→dw P w K mg base CX k fa fd [x] sp)(rG:∀(s:Shared) (u:Value),BindsTo s fd ⟨[u],[]⟩ [(x,u)])(NP:∀H:Hp,LZ H→gF K H→jE K H a (ns.map V.int)→sp [.ref a] H (fun v _=>v=.bl true) fun _ _ _=>False)(Xo:∀H e s',CX [] H s₁ (fun _ _ _=>False) e s'→False):codeAny (model P w) callerA (.call (.ref fa) ⟨[.ref a],[]⟩) (fun r s'=>r=.ok (.ret (.bool true))∧OldK s₁.heap s'.heap∧s'.os=s₁.os∧AllBare s'.gens) s₁:=by
  have rv:=sN hi;have Xp:=hi.length;have aT:a≠T:=fun e=>by have:=hT.2;rw[←e,ha] at this;cases this
  have core:∀H:Hp,LZ H→jE K H a (ns.map V.int)→oM P w H s₁.heap→(∀b,H b≠none→b=a∨b=T)→H T=some (.yQ #[.str zi 0])→(H a≠none→K.lookup a=none) →
      codeAny (model P w) callerA (.call (.ref fa) ⟨[.ref a],[]⟩) (fun r s'=>r=.ok (.ret (.bool true))∧OldK s₁.heap s'.heap∧s'.os=s₁.os∧AllBare s'.gens) s₁:=by
    intro H hO hS cf hA hHT hK;have zM:∀{b:Addr} {o:Obj},s₁.heap.get? b=some o→H b=none→(xu s₁.heap H).get? b=some o:=fun e n=>HG e n;have Se:∀{b:Addr} {o:Obj} {es:Array DictEntry} {ep:Nat},s₁.heap.get? b=some o→o.data=.dict es ep→H b=none:=fun {b o es ep} e d=>by
      cases q:H b with
      |none=>rfl
      |some u =>
       rcases hA b (by rw[q];simp) with e'|e'
       ·subst e';rw[ha] at e;cases e;have d':Data.seq vs.toArray _=Data.dict es ep:=d;cases d'
       ·subst e';rw[hT.2] at e;cases e;have d':Data.fields #[]=Data.dict es ep:=d;cases d'
    have Vn:∀{b:Addr} {m:Str→fV},s₁.heap.Ns b m→(xu s₁.heap H).Ns b m:=fun {b m} ⟨o,es,ep,e,d,r⟩=>⟨o,es,ep,zM e (Se e d),d,r⟩
    have hKb:K.In (xu s₁.heap H):=fun b o e=>zM (KX b o e) (by
      cases q:H b with
      |none=>rfl
      |some u =>
       rcases hA b (by rw[q];simp) with e'|e'
       ·subst e';rw[hK (by rw[q];simp)] at e;cases e
       ·subst e';rw[Xn] at e;cases e)
    have hM:Mod K mg (xu s₁.heap H):=⟨hKb,Vn Rp,⟨mb,Vn hb,hbb⟩,let ⟨mc,h1,h2⟩:=Xm;⟨mc,Vn h1,h2⟩⟩
    have e0:FZ P w K mg (xu s₁.heap H) callerA [] s₁ H:=⟨rfl,hM,fun b o e=>Lr e,Nat.le_of_eq (FN _ _),trivial,fun b hb=>absurd (show b∈([]:List Addr) from hb) (by simp),cf,.of_eq hg⟩
    have hBT:(xu s₁.heap H).BuiltinsAt mg T:=by
      obtain⟨bm,o,b1,b2,b3,b4,b5,b6,b7,b8⟩:=Ru;refine⟨bm,o,b1,b2,b3,b4,zM b5 ?_,b6,b7,b8⟩;cases q:H bm with
      |none=>rfl
      |some u =>
       rcases hA bm (by rw[q];simp) with e'|e'
       ·subst e';rw[ha] at b5;cases b5;injection b6 with b6;exact absurd b6 (by decide)
       ·exact absurd e' b4
    have JY:gF K H:=fun c' P' e=>by rw[Vm c' P' e];exact hHT
    refine codeAny_mono ((F _ hKb (Vn Rp) hBT).run callerA [] s₁ H ⟨[.ref a],[]⟩ [.ref a] [.ref a] _ _ hr e0 (rG s₁ (.ref a)) (.cons rfl .nil) (NP H hO JY hS)) fun r s' h=>?_;cases r with
    |error e=>exact(Xo H e s' h).elim
    |ok fl =>
     cases fl with
     |next=>exact False.elim h
     |brk=>exact False.elim h
     |cont=>exact False.elim h
     |ret u =>
      obtain⟨v,H',os,bare,un,Ti,r',q⟩:=h;have q':v=.bl true:=q;subst q';obtain rfl:u=Value.bool true:=r';have JZ:∀b o,s₁.heap.get? b=some o→∃o',s'.heap.get? b=some o':=fun b o e=>un.there b o e (by simp);refine⟨rfl,⟨fun b o e=>?_,JZ⟩,os,bare⟩;cases q:H b with
      |none=>exact .inl (un.keep b o e q (by intro z;exact absurd (show b∈([]:List Addr) from z) (by simp)) (by simp))
      |some u =>
       rcases hO b with z|⟨ob,xs,z,_⟩|⟨ps,z⟩
       ·rw[q] at z;cases z
       ·have z2:=un.pB b ob _ z;obtain⟨e1,_⟩:=cf b _ z;obtain⟨e2,_⟩:=Ti b _ z2;rw[e] at e1;cases e1;exact .inl e2
       · rcases hA b (by rw[q];simp) with e'|e'
         · exfalso;subst e';obtain⟨_,_,_,e1,_⟩:=(show bU P w H s₁.heap b (.yQ ps) from cf b _ z)
           rw[ha] at e1;cases e1
         · subst e';have eo:=hT.2;rw[e] at eo;cases eo;obtain⟨more,z2⟩:=un.pC b _ z;obtain⟨_,qs,_,e2,_⟩:=(show bU P w H' s'.heap b (.yQ _) from Ti b _ z2)
           exact .inr (.inl ⟨hT.isCodeTable,rfl,#[],qs,rfl,by rw[e2];simp⟩)
  have Ob:∀H:Hp,bU P w H s₁.heap T (.yQ #[.str zi 0]):=fun H=>⟨zi,#[],rfl,hT.2,trivial,fun pos v e=>by cases e⟩
  cases hk:K.lookup a with
  |some o =>
   have e:=KX a o hk;rw[ha] at e;cases e;refine core (fun b=>if b=T then some (.yQ #[.str zi 0]) else none) (fun b=>?_) (.inr ⟨_,vs.toArray,_,hk,rfl,rfl,rfl,by rw[iO,Xp];exact hl,by simpa using rv⟩) (fun b u z=>?_) (fun b z=>?_) (bR rfl) fun z=>absurd (bS aT) z
   · by_cases hb:b=T
     ·exact .inr (.inr ⟨_,bR hb⟩)
     ·exact .inl (bS hb)
   · by_cases hb:b=T
     ·have z':=(bR hb).symm.trans z;cases z';subst hb;exact Ob _
     ·have z':=(bS hb).symm.trans z;cases z'
   · by_cases hb:b=T
     ·exact .inr hb
     ·exact absurd (bS hb) z
  |none =>
   refine core (fun b=>if b=a then some (.pM { cls:=.type "list",data:=.seq vs.toArray } (.lst (ns.map V.int))) else if b=T then some (.yQ #[.str zi 0]) else none) (fun b=>?_) (.inl (.inr ⟨{ cls:=.type "list",data:=.seq vs.toArray },bR rfl⟩)) (fun b u z=>?_) (fun b z=>?_) ?_ fun _=>hk
   · by_cases hb:b=a
     ·exact .inr (.inl ⟨_,_,bR hb,by rw[dX];exact hl⟩)
     · by_cases IY:b=T
       ·exact .inr (.inr ⟨_,(bS hb).trans (bR IY)⟩)
       ·exact .inl ((bS hb).trans (bS IY))
   · by_cases hb:b=a
     ·have z':=(bR hb).symm.trans z;cases z';subst hb;exact⟨ha,by rw[dX];exact hl,vs,_,rv,ha⟩
     · have z':=(bS hb).symm.trans z;by_cases IY:b=T
       ·have z2:=(bR IY).symm.trans z';cases z2;subst IY;exact Ob _
       ·have z2:=(bS IY).symm.trans z';cases z2
   · by_cases hb:b=a
     ·exact .inl hb
     · by_cases IY:b=T
       ·exact .inr IY
       ·exact absurd ((bS hb).trans (bS IY)) z
   ·exact(bS (Ne.symm aT)).trans (bR rfl)
theorem J0{l:PySem.W.OpenLaw}{q:Program}{loose:g7}{d:DefRec}{K:Params→PySem.W.Frag}{CX:World→Ec}{sp:World→Sp}(hn:l.most=some n)(Rv:n≤sizeLine)(Sw:d.params.defaults=[])(hr:eW k callerA)(hY:∀(w:World) (h:Heap),YP w h→(K w.params).In h)(Xq:∀(w:World) (h:Heap),YP w h→∃c T,h.TableAt c T #[]∧(K w.params).lookup T=none∧jO (K w.params)=some (c,T))(F:∀(w:World) (mg:Str→fV) (fa:Addr) (h:Heap),YP w h→(K w.params).In h→h.Ns mainGlobals mg→mg d.name=some (.ref fa)→∃fd:FuncData,(∀(s:Shared) (u:Value),BindsTo s fd ⟨[u],[]⟩ [(x,u)])∧∀(base:Heap) (c T:Addr),jO (K w.params)=some (c,T)→(K w.params).In base→base.Ns mainGlobals mg→base.BuiltinsAt mg T→dw l.prog w (K w.params) mg base (CX w) k fa fd [x] (sp w))(NP:∀(w:World) (H:Hp) (a:Addr) (ns:bD),ns.length≤n→LZ H→gF (K w.params) H→jE (K w.params) H a (ns.map V.int)→sp w [.ref a] H (fun v _=>v=.bl true) fun _ _ _=>False)(Xo:∀(w:World) (H:Hp) (s:Shared) (e:Value) (s':Shared),CX w [] H s (fun _ _ _=>False) e s'→False):PySem.W.WalkO q loose XP YP l.row.toRowW d [] (fun f vs=>PySem.call f vs):=by
  refine Att.AH hn Sw fun w s₀ s₁ mg mb fa o pm cd doc a vs ns G Y ho hd ji Sx PY hints hlen hg=>?_;have KX:=hY w _ Y;obtain⟨c,T,hT,Xn,Vm⟩:=Xq w _ Y;obtain⟨fd,hb,hF⟩:=F w mg fa _ Y KX G.T.g Sx;have Ru:s₁.heap.BuiltinsAt mg T:=by
    obtain⟨bm,ob,b1,b2,b3,b4,b5,b6⟩:=G.T.bmain;refine⟨bm,ob,b1,b2,fun q=>?_,fun q=>?_,b3,b4,b5,b6⟩
    ·obtain⟨o',es,ep,e',d',_⟩:=G.T.g;rw[←q,b3] at e';cases e';rw[b6] at d';cases d'
    ·have e':=hT.2;rw[←q,b3] at e';cases e';cases b4
  exact GU KX G.T.g G.T.b G.T.builtins G.T.nolimit hg PY hints (qG hlen Rv) hr hT Xn (fun c' P' e=>by rw[Vm] at e;cases e;rfl) Ru (fun base h1 h2 h3=>hF base c T Vm h1 h2 h3) hb (fun H hO hTb hS=>NP w H a ns hlen hO hTb hS) fun H e s'=>Xo w H s₁ e s'
end L2
namespace DL
open PySem PySem.Spec L2
open PyProof.Rows hiding St pairAt
def tE(K:PySem.W.Frag)(ms:List Bool)(Fn:eY→fU):Sp:=fun vs H Q _=>∃F ds r,Base F H∧gF K F∧ix K F H ms ds vs∧Fn ds=some r∧yi K F H r Q
theorem zN{K:PySem.W.Frag}{base:Heap}{st:Stmt}{ps:g7}{g:SF}(F:nc K x qual st f fd)(S:bB N ps (ah st))(IZ:ms.length=ps.length)(hb:∀(fT:Value) (A:Around) (outer:List Env) (s:Shared) (H:Hp) (E:XK) (z:Zc),gF K z.F₀→eW k (A.deeper (envOfC qual (ah st) s.heap.objs.size f fT))→Gu (cX kY P w K mg base N qual (ah st) f fT A outer s H E).Cp z (bf st) g):dw P w K mg base kY (k+1) f fd ps (tE K ms (kQ N.length ms g)):=by
  refine F.ok S (fun vs H Q E h=>?_) (fun fT A outer s H vs Q E hr h=>?_)
  ·obtain⟨F,ds,r,_,_,a,_⟩:=h;rw[←IZ,(gG a).1]
  · obtain⟨F,ds,r,b,tb,a,e,q⟩:=h;refine⟨_,hb fT A outer s H E ⟨F,H,fun _ _=>False⟩ tb hr,?_⟩;have rl:Rel K ⟨F,H,fun _ _=>False⟩ F H (L2.start N vs) (dA N.length ms ds):=kb b a;unfold kQ at e;cases o:g (dA N.length ms ds) with
    |none=>rw[o] at e;cases e
    |some o' =>
     rw[o] at e;refine⟨_,F,o',rl,o,?_⟩;cases o' with
     |rt r'=>cases e;exact Gs.of (z:=⟨F,H,fun _ _=>False⟩) q
     |nx η'=>cases e;exact fun σ' H' F' r' _=>q .non H' F' r'.mem (bO.mpr rfl)
     |bk _=>cases e
     |ct _=>cases e
theorem MH{K:PySem.W.Frag}{E:XK}(hO:LZ H)(hT:gF K H)(hS:jE K H a (ns.map V.int))(h:Fn [.lst (ns.map D.int)]=some (.sh (.bl true))):tE K [true] Fn [.ref a] H (fun v _=>v=.bl true) E:=by
  have b:Base H H:=⟨cq.refl _,fun _ _ h _=>h,fun c o hc=>by
    rcases hO c with z|⟨ob,xs,z,hl⟩|⟨ps,z⟩
    ·rw[hc] at z;cases z
    ·rw[hc] at z;cases z;exact hl
    ·rw[hc] at z;cases z;exact True.intro⟩
  have ha:ix K H H [true] [.lst (ns.map D.int)] [.ref a]:=⟨aU.mpr ⟨a,_,rfl,hS,jl _⟩,True.intro⟩
  exact⟨H,_,_,b,hT,ha,h,fun v H' F' _ q=>bK.mp q⟩
def QB(K:PySem.W.Frag):Sp:=fun vs H Q E=>∀Fn:eY→fU,(∀ns:bD,ns.length≤63→Fn [.lst (ns.map D.int)]=some (.sh (.bl true)))→tE K [true] Fn vs H Q E
end DL
namespace L2
open PySem PySem.Spec PyProof.Rows PySem.W
theorem Dj{c v:Value}:∀(l:dW),TriplesOk l→codeAmong pos' (l++[rawInt pos.line,rawInt pos.col,c])=some v→codeAmong pos' l=some v∨v=c:=by
  intro l h
  fun_induction TriplesOk l with
  |case1 =>
   intro e;simp only[List.nil_append,codeAmong,rawInt] at e;split at e
   ·cases e;exact .inr rfl
   ·cases e
  |case2 a t b u x rest ih =>
   intro e;simp only[List.cons_append,codeAmong] at e⊢;split at e
   ·rename_i hc;rw[bR hc];exact .inl e
   ·rename_i hc;rw[bS hc];exact ih h e
  |case3 l h1 h2=>exact h.elim
section
variable {X:Cx} {pins:jc} {σ:St} {H:Hp} {s:Shared}
theorem Inv.tabled{T c':Addr}{qs:Array Value}{tk:Nat}(I:Inv X pins σ H s)(hT:H T=some (.yQ #[.str q 0]))(eT:s.heap.get? T=some (tabObj qs))(ht:TriplesOk qs.toList)(QC:∀pos v,codeAmong pos qs.toList=some v→∃c,v=.ref c∧H c=some (.Cg q))(hx:Heap.ExtBut T s.heap h')(hc:s.heap.objs.size≤c')(MJ:h'.CodeRec (.ref c') q)(hg:h'.get? T=some (tabObj (qs++#[rawInt pos.line,rawInt pos.col,.ref c']))):Inv X pins σ (upd H c' (.Cg q)) { s with heap:=h',toks:=tk }:=by
  have Tj:H c'=none:=I.cf.fresh hc;have cT:c'≠T:=fun e=>by rw[e,hT] at Tj;cases Tj
  have hco:∃o,h'.get? c'=some o:=by obtain⟨c2,o2,_,_,e2,g2,_⟩:=MJ;cases e2;exact⟨o2,g2⟩
  have ne:∀b u,H b=some u→b≠c':=fun b u e z=>by rw[z,Tj] at e;cases e
  have old:∀b o,s.heap.get? b=some o→b≠c':=fun b o e=>iP (jY (dR e) hc);refine I.un ⟨fun b o e n _ _=>hx b o (fun z=>by rw[z,hT] at n;cases n) e,fun b o e n _ _=>⟨o.slots,hx b o (fun z=>by rw[z,hT] at n;cases n) e⟩,fun b o e n _=>by rw[ay (old b o e)];exact n,fun b o e _=>?_,fun b xs e=>by rw[ay (ne b _ e)];exact e,fun b o u e=>by rw[ay (ne b _ e)];exact e,fun b ps e=>⟨#[],by rw[ay (ne b _ e),e];simp⟩⟩ fun b u e=>?_
  · by_cases z:b=T
    ·rw[z];exact⟨_,hg⟩
    ·exact⟨o,hx b o z e⟩
  · by_cases z:b=c'
    ·subst z;rw[aI] at e;cases e;exact MJ
    · rw[ay z] at e;by_cases zT:b=T
      · subst zT;rw[hT] at e;cases e;refine⟨q,_,rfl,hg,?_,fun pos' v hv=>?_⟩
        ·have:=TriplesOk_snoc pos.line pos.col (.ref c') qs.toList ht;simpa using this
        · have EA:codeAmong pos' (qs.toList++[rawInt pos.line,rawInt pos.col,.ref c'])=some v:=by simpa using hv
          rcases Dj _ ht EA with EA|rfl
          ·obtain⟨c,e1,e2⟩:=QC pos' v EA;exact⟨c,e1,by rw[ay (ne c _ e2)];exact e2⟩
          ·exact⟨c',rfl,aI⟩
      · refine(I.cf b u e).mF (fun c v Cm r=>hx c v ?_ r) (fun c r=>by rw[ay (ne c _ r)];exact r) (fun c xs r=>by rw[ay (ne c _ r)];exact r) fun c q' r=>by rw[ay (ne c _ r)];exact r
        rcases Cm with rfl|Cm
        ·exact zT
        ·intro z;rw[z,hT] at Cm;cases Cm
theorem J1{c T:Addr}{body:Expr}(I:Inv X pins σ H s)(Fe:X.env.code=.ref c)(hc:codeHdIn X.K c T=true)(hT:H T=some (.yQ #[.str q 0]))(Rq:closureFor scope X.env=pure [])(hb:X.base.BuiltinsAt X.mg T)(h:∀f c' Ao H' s',Inv X ((f,kla_obj "<lambda>" q params body scope [] ((X.mg "__name__").getD .none) c' Ao)::pins) σ H' s'→(H'=H∨H c'=none∧H'=upd H c' (.Cg q))→H' c'=some (.Cg q)→Q (.ref f) s'):wpAny (model X.prog X.w) X.A (makeFunction "<lambda>" q params (.expr body) scope X.env [] [] [] pos pos.line) Q E s:=by
  obtain⟨q',qs,e0,eT,ht,QC⟩:=(show bU X.prog X.w H s.heap T (.yQ #[.str q 0]) from I.cf T _ hT)
  have eq:q=q':=by have:=hJ (fun a:Array Value=>a[0]?) e0;simp at this;exact this
  subst eq;have C:CodeHd s.heap c T:=codeHd_of_K I.qI hc;have hg:s.heap.Ns mainGlobals X.mg:=by obtain⟨o,es,ep,e,d,r⟩:=I.ok.mod.glob;exact⟨o,es,ep,I.bk _ _ e,d,r⟩
  have LK:s.heap.BuiltinsAt X.mg T:=by obtain⟨bm,o,b1,b2,b3,b4,b5,b6⟩:=hb;exact⟨bm,o,b1,b2,b3,b4,I.bk _ _ b5,b6⟩
  have hgT:mainGlobals≠T:=fun z=>by obtain⟨o,es,ep,e,d,_⟩:=hg;rw[z,eT] at e;cases e;cases d
  cases Xr:codeAmong pos qs.toList with
  |none=>refine kla_makeFunction Rq I.ok.glob hg Fe C eT ht Xr hgT LK fun c' Ao h' tk hx NW nF MJ Xs=>?_;have I1:=I.tabled (tk:=tk) hT eT ht QC hx NW MJ Xs;have Tj:H c'=none:=I.cf.fresh NW;have I2:Inv X pins σ (upd H c' (.Cg q)) { s with heap:=h'.push (kla_obj "<lambda>" q params body scope [] ((X.mg "__name__").getD .none) c' Ao),toks:=tk }:=I1.kept (t':=tk) fun b o e=>nE _ e;refine h _ c' Ao _ _ (I2.Bs (I1.yV (cN _) (I1.cf.fresh (cN _))) (lO _ rfl) fun v z=>by cases z) (.inr ⟨Tj,rfl⟩) aI
  |some cv=>obtain⟨c',rfl,hH⟩:=QC pos cv Xr;refine kla_makeFunctionHit Rq I.ok.glob hg Fe C eT ht Xr LK fun Ao h' tk hk hsz=>?_;have I1:Inv X pins σ H { s with heap:=h',toks:=tk }:=I.kept (t':=tk) hk;have I2:Inv X pins σ H { s with heap:=h'.push (kla_obj "<lambda>" q params body scope [] ((X.mg "__name__").getD .none) c' Ao),toks:=tk }:=I1.kept (t':=tk) fun b o e=>nE _ e;exact h _ c' Ao _ _ (I2.Bs (I1.yV (cN _) (I1.cf.fresh (cN _))) (lO _ rfl) fun v z=>by cases z) (.inl rfl) hH
end
theorem MK{K:PySem.W.Frag}{base:Heap}{c':Addr}{body:Expr}{Ao:Value}{ps:g7}{t:TE}{outer:List Env}{vs:List V}{Q:VK}(hr:eW (k+1) A)(e0:FZ P w K mg base A outer s H)(ho:s.heap.get? f=some (kla_obj "<lambda>" q params body scope [] pm c' Ao))(ji:s.heap.CodeRec (.ref c') q)(S:bB N ps scope)(hb:bindArgs (kla_fn "<lambda>" q params body scope [] pm (.ref c') Ao) ⟨us,[]⟩=pure (ps.zip us))(r:Vals vs us)(hl:vs.length=ps.length)(vh:PE (cX kY P w K mg base N q scope f (.ref c') A outer s H E0).Cp body t)(ht:t (start N vs) H Q):codeAny (model P w) A (.call (.ref f) ⟨us,[]⟩) (CR kY outer P w H s Q E0) s:=by
  have lim:s.heap.NoLimit:=e0.mod.nolimit.keeps fun b o e=>(e0.bs b o e).1;have Ib:∀y∈ps.zip us,scope.names.lookup y.1=some .local∨(scope.names.lookup y.1=some .cell∧((cellsFrom (s.heap.objs.size+1) scope.names []).lookup y.1).isSome=true):=fun⟨n,v⟩ hy=>by
    rcases S.par n (List.of_mem_zip hy).1 with q|q
    ·exact .inl q
    ·exact .inr ⟨q,cellsFrom_some _ _ _ (.inl q)⟩
  refine kla_callFunE hr.depth ho rfl S.co S.gen rfl ji ?_;rw[hb];refine cU ?_;refine wpAny_newFunctionEnv_cells S.kind Ib fun env he s1 x=>?_;subst he;refine⟨lim.keeps x.toInCall.keep,kla_codeExpr ?_⟩;have I:Inv (cX kY P w K mg base N q scope f (.ref c') A outer s H E0) [] (start N vs) H s1:=yc S hr.hd e0 hl r x;refine j4 (vh.Cp [] s1 (start N vs) H Q I ht) (fun u s' hs=>?_) fun e s' hs=>hs;obtain⟨v,H',J,rv,q⟩:=hs;exact⟨v,H',J.os,J.bare,J.base,J.cf,rv,q⟩
end L2
namespace DL
open PySem PySem.Spec L2 PySem.W L4
open PyProof.Rows hiding St pairAt
section
variable {X:Cx} {pins:jc} {σ:St} {H:Hp} {s:Shared}
theorem v8(I:Inv X pins σ H s){t:bD}(r:RelV v u)(h:nq H v t):∃a js,u=.ref a∧IsTup s.heap a js.toArray∧Vals (t.map V.int) js:=by obtain⟨a,rfl,e⟩:=h;obtain⟨js,r1,p1,_⟩:=I.tuple (j9.of e);exact⟨a,js,r,p1,r1⟩
theorem J2{vk:List V}{Q:SortKind→Shared→Prop}(I:Inv X pins σ H s)(rv:Vals vk ks)(hp:Paired (nq H) vk ts)(mz:∀t∈ts,t≠[])(h2:2≤ks.length)(hq:Q (tuples' true) s):wpAny (model X.prog X.w) A (keyKind' (List.toArray ks)) Q E s:=by
  have l1:vk.length=ks.length:=rv.length;have l2:vk.length=ts.length:=hp.length;have mG:∀(vl:dW),(∀v∈vl,∃a n t js,v=.ref a∧IsTup s.heap a (Value.int n t::js).toArray)→∃fs:dW,KatTups s.heap vl fs∧fs.length=vl.length∧∀v∈fs,∃n t,v=.int n t:=by
    intro vl;induction vl with
    |nil=>intro _;exact⟨[],trivial,rfl,fun _ z=>nomatch z⟩
    |cons v r ih =>
     intro hv;obtain⟨a,n,t,js,rfl,o,e,c,m,dd⟩:=hv v hI;obtain⟨fs,k1,k2,k3⟩:=ih fun y hy=>hv y (h9 _ hy);refine⟨.int n t::fs,⟨⟨a,o,_,m,rfl,e,c,dd,rfl⟩,k1⟩,by simp[k2],fun y hy=>?_⟩;rcases gB.mp hy with z|z
     ·exact⟨n,t,z⟩
     ·exact k3 y z
  obtain⟨fs,k1,k2,k3⟩:=mG ks (fun v hv=>by
    obtain⟨i,hi,rfl⟩:=List.mem_iff_getElem.mp hv;obtain⟨a,js,e1,e2,e3⟩:=v8 I (bZ rv (i:=i) (by omega) V.non Value.none) (bZ hp (i:=i) (by omega) V.non []);rw[pw,nH hi] at e1;have hti:i<ts.length:=by omega
    have en:ts.getD i []≠[]:=by rw[pw,nH hti];exact mz _ (List.getElem_mem hti)
    generalize ts.getD i []=tt at e3 en;cases tt with
    |nil=>exact absurd rfl en
    |cons n tt =>
     cases e3 with
     |cons r1 r2 =>
      obtain⟨t,rfl⟩:=r1;exact⟨a,n,t,_,e1,e2⟩)
  refine kat_kind (T:=.type "int") k1 (by omega) (fun v hv=>?_) rfl ?_
  ·obtain⟨n,t,rfl⟩:=k3 v hv;exact Looks.of_pure rfl
  ·exact hq
theorem QD{vk:List V}{C:Bool→Shared→Prop}{j:Nat}(I:Inv X pins σ H s)(rv:Vals vk ks)(hp:Paired (nq H) vk ts)(hi:i<ks.length)(hj:j<ks.length)(hc:C (HT.lexLt (ts.getD i []) (ts.getD j [])) s):wpAny (model X.prog X.w) A (keyLt' (tuples' true) (ks.getD i Value.none) (ks.getD j Value.none)) C (fun _ _=>False) s:=by
  have l1:vk.length=ks.length:=rv.length;obtain⟨a,js,e1,e2,e3⟩:=v8 I (bZ rv (i:=i) (by omega) V.non Value.none) (bZ hp (i:=i) (by omega) V.non []);obtain⟨b,js',f1,f2,f3⟩:=v8 I (bZ rv (i:=j) (by omega) V.non Value.none) (bZ hp (i:=j) (by omega) V.non []);rw[e1,f1];obtain⟨oa,ga,_,na,da⟩:=id e2;obtain⟨ob,gb,_,nb,db⟩:=id f2;refine kat_lt ga da gb db ?_;refine Bt 0 e3 f3 ?_ hc;have a1:=e3.length;have a2:=f3.length;rw[dX] at a1 a2;rw[iO,iO,a1,a2]
theorem nq.same{t:bD}(x:nq H v t)(s:cq H H'):nq H' v t:=by obtain⟨b,e,h⟩:=x;exact⟨b,e,s _ _ h⟩
def GV(a b:bD×bD):Bool:=!HT.lexLt b.1 a.1
def jS(es:List (bD×bD)):List (bD×bD):=es.mergeSort GV
theorem lg(es:List (bD×bD)):(jS es).Perm es:=List.mergeSort_perm es GV
theorem rJ(a b:bD×bD):GV a b=GF (0,a.1) (0,b.1):=by unfold GV GF;rw[Tf]
theorem GW(hd:(es.map (·.1)).Nodup):(jS es).Pairwise (fun a b=>HT.lexLt a.1 b.1=true):=by
  have h:=List.pairwise_mergeSort (le:=GV) (fun a b c=>by rw[rJ,rJ,rJ];exact Jx _ _ _) (fun a b=>by rw[rJ,rJ];exact ER _ _) es;have hn:((jS es).map (·.1)).Nodup:=((lg es).map _).nodup_iff.mpr hd;have OJ:(jS es).Pairwise fun a b=>a.1≠b.1:=by have:=List.pairwise_map.mp hn;exact this
  refine List.Pairwise.imp₂ (fun a b h1 h2=>?_) h OJ;have N3:HT.lexLt b.1 a.1=false:=by unfold GV at h1;simpa using h1
  exact oP (fun z=>h2 z.symm) N3
theorem yq{qs:List (bD×bD)}(hd:(es.map (·.1)).Nodup)(h:qs.Perm es)(hp:qs.Pairwise (fun a b=>HT.lexLt a.1 b.1=true)):jS es=qs :=
  List.Perm.eq_of_pairwise (le:=fun a b=>HT.lexLt a.1 b.1=true) (fun a b _ _ h1 h2=>by have:=qR h1 h2;rw[mJ] at this;cases this) (GW hd) hp ((lg es).trans h.symm)
structure Tn (X:Cx) (k:Nat) (q:Str) (params:Arguments) (body:Expr) (scope:Scope) (g:EF):Prop where
  ex:∃N ps,bB N ps scope∧ps.length=1∧N.length=1∧(∀(pm cd ct:Value) (us:dW),us.length=ps.length→bindArgs (kla_fn "<lambda>" q params body scope [] pm cd ct) ⟨us,[]⟩=pure (ps.zip us)) ∧
    ∀(f c':Addr) (A:Around) (outer:List Env) (s:Shared) (H:Hp) (z:Zc),eW k (A.deeper (envOfC q scope s.heap.objs.size f (.ref c')))→DE (cX kY X.prog X.w X.K X.mg X.base N q scope f (.ref c') A outer s H E0).Cp z body g
theorem J3{c':Addr}{body:Expr}{Ao:Value}{g:EF}{d':D}{Q:VK}(L:Tn X k q params body scope g)(hr:eW (k+1) X.A.in1.in1)(I:Inv X pins σ H s)(J4:(f,kla_obj "<lambda>" q params body scope [] pm c' Ao)∈X.pn++pins)(hc:H c'=some (.Cg q))(r:RelV v u)(b:Base F H)(hd:Den X.K F d v)(hg:g [some (.sh d)]=some d')(h:∀v H' F',bu F H F' H'→Den X.K F' d' v→Q v H'):wpAny (model X.prog X.w) X.A.in1.in1 (call (.ref f) [u]) (EP X pins σ Q) E s:=by
  obtain⟨N,ps,S,Qy,hN,hb,vh⟩:=L.ex;have e0:FZ X.prog X.w X.K X.mg X.base X.A.in1.in1 X.stack s H:={ I.LJ with frames:=I.LJ.frames }
  have ho:=(I.pin _ J4).1;have rl:Rel X.K ⟨F,H,fun _ _=>False⟩ F H (L2.start N [v]) (dA N.length [true] [d]):=kb b ⟨hd,trivial⟩;have est:dA N.length [true] [d]=[some (.sh d)]:=by unfold dA;rw[hN];rfl
  refine wpAny_call (codeAny_mono (MK hr e0 ho (I.cf c' _ hc) S (hb _ _ _ [u] (by rw[Qy];rfl)) (.cons r .nil) (by rw[Qy];rfl) (vh f c' X.A.in1.in1 X.stack s H ⟨F,H,fun _ _=>False⟩ (hr.deeper _)) ⟨_,F,d',rl,by rw[est];exact hg,h⟩) fun r s' hq=>?_);cases r with
  |error e=>exact False.elim hq
  |ok fl =>
   cases fl with
   |ret u=>exact I.after hq
   |_=>exact False.elim hq
theorem zO{Q:VK}{c':Addr}{body:Expr}{Ao:Value}{g:EF}{kv:List V}{acc:dW}{tk:Nat}(hu:X.A.units+5<cLine)(L:Tn X k q params body scope g)(hr:eW (k+1) X.A.in1.in1)(I:Inv X pins σ H s)(J4:(f,kla_obj "<lambda>" q params body scope [] pm c' Ao)∈X.pn++pins)(Rl:H c'=some (.Cg q))(b0:Base F H)(hF:∀e∈es,g [some (.sh (.tup (e.2.map D.int)))]=some (.tup (e.1.map D.int)))(NX:(es.map (·.1)).Nodup)(uP:es.length<64)(mz:∀e∈es,e.1≠[])(hk:∀b o,s.heap.get? b=some o→h'.get? b=some o)(Xu:Vals kv acc)(ud:Paired (fun v (e:bD×bD)=>nq H v e.2) kv es){P:PySem.Fin→Shared→Prop}(Xv:∀v s',EP X pins σ Q v s'→P (.done (.ret v)) s')(post:∀p vs H' F',bu F H F' H'→H p=none→F' p=none→H' p=some (.lst vs)→cc X.K F' ((jS es).map fun e=>D.tup (e.2.map D.int)) vs→Q (.ref p) H'):wpAny (model X.prog X.w) X.A.in1 (newList acc>>=fun l=>holding [l] (call (.builtin "list.sort") [l] [(Str.ofString "key",.ref f)])>>=fun _=>ret l) P X.xe { s with heap:=h',toks:=tk }:=by
  have l1:=Paired.length ud;have hl:acc.length=es.length:=by rw[←l1];exact(Xu.length).symm
  have lkv:kv.length=es.length:=l1;refine de (wpAny_newList ?_ (by rw[hl,mD];omega));have I0:Inv X pins σ H { s with heap:=h',toks:=tk }:=I.kept (t':=tk) hk;have Rk:(h'.push (seqObj "list" acc.toArray 0)).get? h'.objs.size=some (seqObj "list" acc.toArray 0):=lO _ rfl;have hDn:H h'.objs.size=none:=I0.cf.fresh (cN _);have fD:je X pins H h'.objs.size:=I0.yV (cN _) hDn;have hD0:X.s₀.heap.objs.size≤h'.objs.size:=I0.sz;have hold:∀b o,h'.get? b=some o→b≠h'.objs.size:=fun b o q=>iP (dR q);show wpAny _ _ _ _ _ { s with heap:=h'.push (seqObj "list" acc.toArray 0),toks:=tk };have aeO:(h'.push (seqObj "list" acc.toArray 0)).objs.size=h'.objs.size+1:=size_push' ..;have I1:Inv X pins σ H { s with heap:=h'.push (seqObj "list" acc.toArray 0),toks:=tk }:=I0.kept (t':=tk) fun b o q=>nE _ q;generalize hDD:h'.objs.size=D at *;refine de (uw (wpAny_call_entry_kw slot_list_sort ⟨_,Rk,rfl⟩ entry_list_sort ?body (ksk_l1 _ _)))
  case body =>
    show wpAny (model X.prog X.w) X.A.in1.in1 (Builtin.«list.sort» ⟨[.ref D],[(Str.ofString "key",.ref f)]⟩) _ _ _;rw[ksk_t1];refine Dg (vs:=acc) (κ:=tuples' true) (lt:=fun i j=>HT.lexLt ((es.map (·.1)).getD i []) ((es.map (·.1)).getD j []))
      (J:=fun kS e1 ks c s'=>D≠kS∧∃H' F' vk,Inv X ((kS,seqObj "list" ks.toArray c)::(D,seqObj "list" #[] e1)::pins) σ H' s'∧bu F H F' H'∧Vals vk ks∧Paired (nq H') vk ((es.map (·.1)).take ks.length) ∧
        je X ((D,seqObj "list" #[] e1)::pins) H kS) Rk (by omega) ?init ?get ?step ?kind ?run ?fin
    case init =>
      intro kS e1 h2 mz hsz g1 g2 keep;have I2:Inv X pins σ H { s with heap:=h2,toks:=tk }:=I0.kept (t':=tk) fun b o q=>keep b o (hold b o q) (nE _ q);have f0:je X pins H kS:=I1.yV hsz (I1.cf.fresh hsz);have fk:je X ((D,seqObj "list" #[] e1)::pins) H kS:=⟨f0.1,f0.2.1,f0.2.2.1,f0.2.2.2.1,f0.2.2.2.2.1,fun p hp=>by
        rcases sI.mp hp with q|q
        ·exact f0.2.2.2.2.2 p (List.mem_append_left _ q)
        · rcases gB.mp q with rfl|q
          ·exact mz
          ·exact f0.2.2.2.2.2 p (kR _ q)⟩
      exact⟨mz,H,F,[],(I2.Bs fD g2 tD).Bs fk g1 tD,bu.refl b0,.nil,by simpa using Paired.nil,fk⟩
    case get =>
      rintro kS e1 ks c s' ⟨mz,H',F',vk,I',_⟩;exact⟨mz,(I'.pin (kS,_) (kR _ hI)).1,(I'.pin (D,_) (kR _ (h9 _ hI))).1⟩
    case step =>
      rintro kS e1 ks c s' x ⟨mz,H',F',vk,I',g',rk,hp,fk⟩ hx;have hi:ks.length<acc.length:=by
        rcases Nat.lt_or_ge ks.length acc.length with q|q
        ·exact q
        ·rw[List.getElem?_eq_none q] at hx;cases hx
      have ra:=bZ Xu (i:=ks.length) (by omega) V.non Value.none;obtain⟨b,q1,q2⟩:=bZ ud (i:=ks.length) (by omega) V.non ([],[]);rw[q1,pw,hx] at ra;have hxb:x=.ref b:=ra;subst hxb;have P5:ks.length<es.length:=by omega
      have hee:es.getD ks.length ([],[])=es[ks.length]:=by rw[pw,nH P5];rfl
      rw[hee] at q2;have den:Den X.K F' (.tup (es[ks.length].2.map DL.D.int)) (.ref b):=aR.mpr ⟨b,_,rfl,g'.base.tup _ _ (g'.ent _ _ q2) rfl,jl _⟩;have Tp:(f,kla_obj "<lambda>" q params body scope [] pm c' Ao)∈X.pn++((kS,seqObj "list" ks.toArray c)::(D,seqObj "list" #[] e1)::pins):=by
        rcases sI.mp J4 with z|z
        ·exact List.mem_append_left _ z
        ·exact kR _ (h9 _ (h9 _ z))
      refine j4 (J3 (Q:=fun v H2=>∃F2,bu F' H' F2 H2∧Den X.K F2 (.tup (es[ks.length].1.map DL.D.int)) v) L hr I' Tp (g'.ent _ _ Rl) (v:=.ref b) rfl g'.base den (hF _ (List.getElem_mem P5)) fun v H2 F2 g2 dn=>⟨F2,g2,dn⟩) (fun k uy hq=>?_) fun _ _ x=>x;obtain⟨v,H2,I2,rv,F2,g2,dn⟩:=hq;have Vo:=I2.pin (kS,_) (kR _ hI);refine⟨Vo.1,fun h2 c2 sb gk=>⟨mz,H2,F2,vk++[v],?_,g'.trans g2,rk.append (.cons rv .nil),?_,fk⟩⟩
      ·have HB:=je.re fk Vo.2.1;have I3:=Inv.turned (t':=uy.toks) (h':=h2) (it:=kS) I2.zI (fun b o hb e=>by rw[sb.2 b hb];exact e) HB.1 HB.2.1 HB.2.2.2.1 HB.2.2.2.2.1 HB.2.2.2.2.2;exact I3.Bs HB gk tD
      · have hi3:ks.length<(es.map (·.1)).length:=by rw[dX];exact P5
        rw[uq,List.length_singleton,List.take_succ_eq_append_getElem hi3];refine Paired.snoc (Paired.HF hp fun a b q=>DL.nq.same q g2.ent) ?_;obtain⟨a,ws,rfl,w1,w2⟩:=aR.mp dn;rw[iu w2] at w1;exact⟨a,rfl,by rw[List.getElem_map];exact g2.base.sub _ _ w1⟩
    case kind =>
      rintro kS e1 ks c s' ⟨Tq,H',F',vk,I',g',rk,hp,fk⟩ hlen h2 Q' hq;exact J2 I' rk hp (fun t ht=>by
        have:=List.mem_of_mem_take ht;obtain⟨e,he,rfl⟩:=lR.mp this;exact mz e he) (by omega) hq
    case run =>
      rintro kS e1 ks c s' ⟨Tq,H',F',vk,I',g',rk,hp,fk⟩ hlen h2;rw[List.take_of_length_le (by rw[dX];omega)] at hp;have hS:=Dh NX;rw[dX] at hS;refine GN (by omega) (by omega) (by omega) (fun i j C' hi hj hC=>?_) (by rw[hl];exact hS);exact QD I' rk hp hi hj hC
    case fin =>
      rintro kS e1 ks c s' p h3 h4 ck c2 ⟨Tq,H',F',vk,I',g',rk,hp,fk⟩ hlen hP hU sb1 gk sb2 gD;have Vo:=I'.pin (kS,_) (kR _ hI);have hpD:=I'.pin (D,_) (kR _ (h9 _ hI));have HB:je X pins H' kS:=⟨Vo.2.1,fk.2.1,fk.2.2.1,fk.2.2.2.1,fk.2.2.2.2.1,fun p hp=>fk.2.2.2.2.2 p (by
        rcases sI.mp hp with q|q
        ·exact List.mem_append_left _ q
        ·exact kR _ (h9 _ q))⟩
      have Oc:je X pins H' D:=je.re fD hpD.2.1;have I4:=Inv.turned (t':=s'.toks) (h':=h3) (it:=kS) I'.zI.zI (fun b o hb e=>by rw[sb1.2 b hb];exact e) HB.1 HB.2.1 HB.2.2.2.1 HB.2.2.2.2.1 HB.2.2.2.2.2;have I5:=Inv.turned (t':=s'.toks) (h':=h4) (it:=D) I4 (fun b o hb e=>by rw[sb2.2 b hb];exact e) Oc.1 Oc.2.1 Oc.2.2.2.1 Oc.2.2.2.2.1 Oc.2.2.2.2.2;rw[hl] at hP hU;have hm:∀i∈p.toList,i<es.length:=fun i hi=>by have:=(Array.perm_iff_toList_perm.mp hP.perm).mem_iff.mp hi;simpa using this
      have Od:(p.toList.map fun i=>kv.getD i V.non).length≤sizeLine:=by rw[dX,Aq,hP.size,mD];omega
      have I6:=Inv.adopt (o:=.lst (p.toList.map fun i=>kv.getD i V.non)) I5 Oc hD0 ⟨Od,p.toList.map fun i=>acc.getD i Value.none,c2,kx _ _ fun i hi=>bZ Xu (by have:=hm i hi;omega) _ _,by simpa using gD⟩;have dgm:∀i,(es.map (·.1)).getD i []=(es.getD i ([],[])).1:=fun i=>by rw[pw,pw,nI];cases es[i]?<;>rfl
      simp only[dgm] at hU;have e0:jS es=p.toList.map fun i=>es.getD i ([],[]):=yq NX (Eu _ hP) (ub ([],[]) (fun a b=>HT.lexLt a.1 b.1) hP hU);refine⟨_,rfl,cU (Xv _ _ ⟨.ref D,_,I6,rfl,post D _ _ F' (g'.trans (bu.own g'.base Oc.1 (.lst (p.toList.map fun i=>kv.getD i V.non)) Od rfl)) hDn (g'.base.sub.free Oc.1) aI ?_⟩)⟩;rw[e0,ko];refine qS.mpr (kx _ _ fun i hi=>?_);obtain⟨b,q1,q2⟩:=bZ ud (i:=i) (by have:=hm i hi;omega) V.non ([],[]);rw[q1];exact aR.mpr ⟨b,_,rfl,g'.base.tup _ _ (g'.ent _ _ q2) rfl,jl _⟩
theorem zP{Q:VK}{c' d:Addr}{body:Expr}{Ao:Value}{g:EF}{vs:List V}(hu:X.A.units+5<cLine)(L:Tn X k q params body scope g)(hr:eW (k+1) X.A.in1.in1)(I:Inv X pins σ H s)(J4:(f,kla_obj "<lambda>" q params body scope [] pm c' Ao)∈X.pn++pins)(Rl:H c'=some (.Cg q))(b0:Base F H)(hd:jE X.K H d vs)(ud:Paired (fun v (e:bD×bD)=>nq H v e.2) vs es)(hF:∀e∈es,g [some (.sh (.tup (e.2.map D.int)))]=some (.tup (e.1.map D.int)))(NX:(es.map (·.1)).Nodup)(uP:es.length<64)(mz:∀e∈es,e.1≠[])(post:∀p vs H' F',bu F H F' H'→H p=none→F' p=none→H' p=some (.lst vs)→cc X.K F' ((jS es).map fun e=>D.tup (e.2.map D.int)) vs→Q (.ref p) H'):wpAny (model X.prog X.w) X.A (call (.builtin "sorted") [.ref d] [(Str.ofString "key",.ref f)]) (EP X pins σ Q) X.xe s:=by
  obtain⟨its,rv,hl,_⟩:=I.list hd;have l1:vs.length=its.length:=rv.length;have l2:vs.length=es.length:=Paired.length ud;refine call_function_entry_kw kind_sorted plain_sorted entry_sorted (ksk_s1 _ _) ?_;unfold Builtin.«sorted»;refine de (m:=checkCount "sorted" 1 1 _) (cU ?_);refine de (collect_list hl.isList ?_ (by rw[mD];omega));have keep:∀b o,s.heap.get? b=some o→((s.heap.push (seqObj "list" #[] 0)).update s.heap.objs.size (Obj.mapSeq (·++its.toArray))).get? b=some o:=fun b o q=>by have nF:b<s.heap.objs.size:=dR q;rw[Heap.get?_update_ne _ _ _ _ (iP nF),Heap.get?_push_ne _ _ _ (iP nF)];exact q
  exact zO (tk:=s.toks) hu L hr I J4 Rl b0 hF NX uP mz keep rv ud (fun v s' q=>⟨_,rfl,q⟩) post
end
end DL
namespace DL
open PySem PySem.Spec L2 PySem.W
open PyProof.Rows hiding St pairAt
def yr(g:EF):eY→Option (List (bD×bD))
  |[]=>some []
  |.tup ts::ds=>(kZ ts).bind fun ns=>match g [some (.sh (.tup ts))] with
   |some (.tup ks)=>(kZ ks).bind fun kk=>(yr g ds).map ((kk,ns)::·)
   |_=>none
  |_::_=>none
theorem J5{g:EF}:∀{ds:eY} {es:List (bD×bD)},yr g ds=some es→ds=(es.map fun e=>D.tup (e.2.map D.int))∧∀e∈es,g [some (.sh (.tup (e.2.map D.int)))]=some (.tup (e.1.map D.int)):=by
  intro ds;induction ds with
  |nil=>intro es h;cases h;exact⟨rfl,fun _ z=>nomatch z⟩
  |cons d ds ih =>
   intro es h;unfold yr at h;split at h
   ·rename_i heq;cases heq
   · rename_i ts p8 heq;cases heq;obtain⟨ns,h1,h⟩:=eS.mp h;split at h
     · rename_i ks hg;obtain⟨kk,h2,h⟩:=eS.mp h;obtain⟨r,h3,h4⟩:=pv.mp h;subst h4;obtain⟨i1,i2⟩:=ih h3;have e1:=kC h1;have e2:=kC h2;subst e1 e2;refine⟨by rw[i1];rfl,fun e he=>?_⟩;rcases gB.mp he with rfl|he
       ·exact hg
       ·exact i2 e he
     ·cases h
   ·cases h
def v9(i:Nat)(η:cD):Bool:=match η[i]? with
  |some (some (.sh (.obj _)))=>true
  |_=>false
def n9(f g:EF):LF:=fun η=>if v9 0 η=true then((f η).bind fun d=>match d with
    |.lst ds=>(yr g ds).bind fun es=>if (es.map (·.1)).Nodup∧es.length<64∧(es.all fun e=>!e.1.isEmpty)=true then some ((jS es).map fun e=>D.tup (e.2.map D.int)) else none
    |_=>none) else none
theorem GX(h:v9 i η=true):∃C,η[i]?=some (some (.sh (.obj C))):=by
  unfold v9 at h;split at h
  ·rename_i C e;exact⟨C,e⟩
  ·cases h
section
variable {X:Cx} {z:Zc} {e:Expr} {f:EF} {pos p:Pos}
theorem Dk{c T:Addr}{body:Expr}{lp kp:Pos}{g:EF}(hu:X.A.units+5<cLine)(L:Tn X k zi params body scope g)(hr:eW (k+3) X.A)(hgs:Gl X "sorted")(IZ:X.mg "sorted"=none)(ha:DE X z e f)(Fe:X.env.code=.ref c)(hc:codeHdIn X.K c T=true)(hT:jO X.K=some (c,T))(hB:X.base.BuiltinsAt X.mg T)(Rq:closureFor scope X.env=pure [])(Xw:eval (.Lambda params body scope lp) X.env=(do
      let dv ←evalAll []
      let kdv ←holding dv (evalAllOpt [])
      makeFunction "<lambda>" zi params (.expr body) scope X.env dv kdv [] lp lp.line))(hs:starEach [e] X.env=(false,eval e X.env)::starEach [] X.env:=by rfl):DO X z (.Call (.Name "sorted" p) [e] [⟨some "key",.Lambda params body scope lp,kp⟩] pos) (n9 f g):=by
  intro pins s σ H Q I ⟨η,F,p8,rl,e0,kk⟩;unfold n9 at e0;by_cases Tr:v9 0 η=true
  · obtain⟨C,Ts⟩:=GX Tr;rw[bR Tr] at e0;obtain⟨d',h1,e0⟩:=eS.mp e0;cases d' with
    |lst ds0 =>
     obtain⟨es,h2,e0⟩:=eS.mp e0;by_cases hl:(es.map (·.1)).Nodup∧es.length<64∧(es.all fun e=>!e.1.isEmpty)=true
     · rw[bR hl] at e0;cases e0;obtain⟨a1,a2⟩:=J5 h2;have mz:∀e∈es,e.1≠[]:=fun e he z=>by
         have:=List.all_eq_true.mp hl.2.2 e he;rw[z] at this;simp at this
       obtain⟨vs0,_,Xx⟩:=rl.at_ 0 _ Ts;obtain⟨_,_,_,_,JY⟩:=eZ.mp (show Den X.K F (.obj C) vs0 from Xx);have hFT:=JY c T hT;refine wpAny_Call_Name_kw (p6 I hgs IZ oN ?_ (by decide) (by decide));refine PyProof.Rows.callWith_kw ?_ (by rw[hs];rfl) (by rw[hs];rfl) rfl rfl;refine fW (cF ha gC hs pos pins s σ H (fun vs H1=>∃v F1,vs=[v]∧bu F H F1 H1∧Den X.K F1 (.lst ds0) v) I ⟨η,F,_,rl,h1,fun v H1 F1 g1 q1=>⟨v,F1,rfl,g1,q1⟩⟩) fun us s1 ⟨vs,H1,I1,r1,q1⟩=>?_;obtain⟨v,F1,rfl,g1,q1⟩:=q1;obtain⟨q,ws,rfl,h4,h5⟩:=aU.mp q1;obtain⟨u,rfl,ru⟩:=vals1 r1;cases ru;rw[a1] at h5;show wpAny _ _ (evalAll ((do let v ←eval (.Lambda params body scope lp) X.env;standAt pos;pure v)::[])) _ _ s1;refine wpAny_evalAll_cons (de ?_);rw[Xw];refine de (wpAny_evalAll_nil (de (uw (cU ?_))));refine J1 I1 Fe hc (g1.base.sub _ _ (g1.g9 _ _ hFT)) Rq hB fun fl c' Ao H2 s2 I2 hH Xy=>?_;refine de (wpAny_standAt (cU ?_));refine wpAny_evalAll_nil ?_;have g2:bu F1 H1 F1 H2:=by
         rcases hH with rfl|⟨hn,rfl⟩
         ·exact bu.refl g1.base
         ·exact bu.own g1.base hn (.Cg zi) True.intro rfl
       have ud:Paired (fun v (e:bD×bD)=>nq H2 v e.2) ws es:=by
         have key:∀{l:List V} {m:List (bD×bD)},cc X.K F1 (m.map fun e=>D.tup (e.2.map D.int)) l→Paired (fun v (e:bD×bD)=>nq H2 v e.2) l m:=by
           intro l m;induction m generalizing l with
           |nil=>intro h;rw[bq.mp h];exact .nil
           |cons x m ih=>intro h;obtain⟨v,r,rfl,h1,h2⟩:=aE.mp h;obtain⟨a,xs,rfl,h3,h4⟩:=aR.mp h1;rw[iu h4] at h3;exact .cons ⟨a,rfl,g2.base.sub _ _ (g2.g9 _ _ h3)⟩ (ih h2)
         exact key h5
       have hr2:eW (k+1) X.A.in1.in1:=hr.in1.in1;refine fW (zP (Q:=Q) hu L hr2 I2 (kR _ hI) Xy g2.base (g2.base.sub.seq (cq.seq g2.g9 h4)) ud a2 hl.1 hl.2.1 mz fun p vs H' F' g q1 q2 q3 q4=>kk p vs H' F' ((g1.trans g2).trans g) ((g1.trans g2).ent.free q1) q2 q3 q4) fun u s3 ⟨v,H3,I3,r,qq⟩=>⟨v,H3,I3.zI,r,qq⟩
     ·rw[bS hl] at e0;cases e0
    |_=>cases e0
  ·rw[bS Tr] at e0;cases e0
end
theorem ML{K:PySem.W.Frag}{base:Heap}{st:Stmt}{ps:g7}{g:SF}{kV doc fT:Value}(lk:K.lookup f=some ⟨oc,od,.func (fnOf x qual (bA st) (bf st) (ah st) .none kV doc pm an fT ct),HC⟩)(ji:codeIn K fT qual=true)(S:bB N ps (ah st))(IZ:ms.length=ps.length)(hb:∀(A:Around) (outer:List Env) (s:Shared) (H:Hp) (E:XK) (z:Zc),eW k (A.deeper (envOfC qual (ah st) s.heap.objs.size f fT))→Gu (cX kY P w K mg base N qual (ah st) f fT A outer s H E).Cp z (bf st) g):dw P w K mg base kY (k+1) f (fnOf x qual (bA st) (bf st) (ah st) .none kV doc pm an fT ct) ps (dS K ms (kQ N.length ms g)):=by
  refine Ee lk ji S (fun vs H Q E h=>?_) (fun A outer s H vs Q E hr h=>?_)
  ·obtain⟨F,ds,r,_,a,_⟩:=h;rw[←IZ,(gG a).1]
  · obtain⟨F,ds,r,b,a,e,q⟩:=h;refine⟨_,xZ.Cp (hb A outer s H E ⟨F,H,fun _ _=>False⟩ hr),?_⟩;have rl:Rel K ⟨F,H,fun _ _=>False⟩ F H (L2.start N vs) (dA N.length ms ds):=kb b a;unfold kQ at e;cases o:g (dA N.length ms ds) with
    |none=>rw[o] at e;cases e
    |some o' =>
     rw[o] at e;refine⟨_,F,o',rl,o,?_⟩;cases o' with
     |rt r'=>cases e;exact Gs.of (z:=⟨F,H,fun _ _=>False⟩) q
     |nx η'=>cases e;exact fun σ' H' F' r' _=>q .non H' F' r'.mem (bO.mpr rfl)
     |bk _=>cases e
     |ct _=>cases e
end DL
namespace L2
open PySem PySem.Spec PyProof.Rows PySem.W
def Tt(outer:List Env)(h0:Heap)(ea:Addr)(C:Value)(H':Hp)(h':Heap):Prop :=
  ∃B a0,Heap.FlyingW B outer ea C a0 h'∧(∀b o,h0.get? b=some o→b∉nJ outer→∃o',B.get? b=some o')∧∀b o,H' b=some o→∃o',B.get? b=some o'
def jL(P:Program)(w:World):Ec:=fun outer H s E e s' =>
  ∃(ea C:Addr) (H':Hp),e=.ref ea∧s'.os=s.os∧AllBare s'.gens∧Un (nJ outer) [] H H' s.heap s'.heap∧oM P w H' s'.heap∧Tt outer s.heap ea (.ref C) H' s'.heap∧E (.ref C) none H'
theorem yt{B:Heap}(cf:oM P w H h)(st:B.StaysIn h)(t7:B.StaysIn h')(cov:∀b o,H b=some o→∃o',B.get? b=some o'):oM P w H h':=fun a o e =>
  (cf a o e).mF (fun b u hb q=>by
    have hB:∃o',B.get? b=some o':=by
      rcases hb with z|z
      ·rw[z];exact cov _ _ e
      ·exact cov _ _ z
    obtain⟨o',eb⟩:=hB;have e2:=st b o' eb;rw[q] at e2;cases e2;exact t7 b _ eb) (fun _ z=>z) (fun _ _ z=>z)
theorem bU.there(x:bU P w H h a o):∃u,h.get? a=some u:=by
  cases o with
  |lst xs=>obtain⟨_,_,_,_,e⟩:=x;exact⟨_,e⟩
  |tup xs=>obtain⟨_,_,_,p⟩:=x;obtain⟨o,e⟩:=p;exact⟨_,e.1⟩
  |dK aW=>obtain⟨_,_,_,_,o,_,_,e,_⟩:=x;exact⟨_,e⟩
  |dT aW=>obtain⟨_,_,_,_,o,_,_,e,_⟩:=x;exact⟨_,e⟩
  |set S n=>obtain⟨o,_,_,_,e,_⟩:=x;exact⟨_,e⟩
  |ins C dx fs=>obtain⟨_,_,_,e,_⟩:=x;exact⟨_,e⟩
  |own y=>exact x
  |xd fs=>obtain⟨_,⟨_,_,_,e,_⟩,_⟩:=x;exact⟨_,e⟩
  |U3 lo hi=>obtain⟨_,_,_,e⟩:=x;exact⟨_,e⟩
  |pM ob u=>obtain⟨e,_⟩:=x;exact⟨_,e⟩
  |yQ ps=>obtain⟨_,_,_,e,_⟩:=x;exact⟨_,e⟩
  |Cg q=>obtain⟨_,_,_,_,e,g,_⟩:=x;cases e;exact⟨_,g⟩
  |met f y=>exact⟨_,x⟩
  |ext φ=>exact x.2.1
section
variable {P:Program} {w:World} {K:PySem.W.Frag} {mg:Str→fV} {base:Heap} {N:g7} {qual:Str} {scope:Scope} {f:Addr} {cd:Value} {A:Around} {outer:List Env} {s₀:Shared} {H₀:Hp} {E:XK}
  {pins:jc} {σ:St} {H:Hp} {s:Shared}
theorem Ff{CX:Ec}{B:Heap}{ea:Addr}{a0:Value}(I:Inv (cX CX P w K mg base N qual scope f cd A outer s₀ H₀ E) pins σ H s)(fl:Heap.FlyingW B outer ea (.ref C) a0 h')(up:s.heap.UpToSlots h')(st:B.StaysIn s.heap)(c1:∀b o,s₀.heap.get? b=some o→b∉nJ outer→∃o',B.get? b=some o')(c2:∀b o,H b=some o→∃o',B.get? b=some o')(hE:E (.ref C) none H):jL P w outer H₀ s₀ E (.ref ea) { s with heap:=h' }:=by
  have hb:Un (nJ outer) [] H₀ H s₀.heap s.heap:=I.base;have J6:∀b o,s₀.heap.get? b=some o→b∈nJ outer→∃sl,h'.get? b=some { o with slots:=sl }:=fun b o e hm=>by obtain⟨sl,e1⟩:=hb.slot b o e (I.ok.Lc b hm) hm (by simp);obtain⟨_,o2,Pr,MN⟩:=I.ok.pZ.mem hm;have e2:s₀.heap.get? b=some o2:=Pr;rw[e] at e2;cases e2;obtain⟨Hx,e3⟩:=up b _ e1 (fun vs z=>MN vs z);exact⟨Hx,e3⟩
  have hk:∀b o,s₀.heap.get? b=some o→b∉nJ outer→∃o',s.heap.get? b=some o'∧h'.get? b=some o':=fun b o e hm=>by obtain⟨o',e'⟩:=c1 b o e hm;exact⟨o',st b o' e',fl.1 b o' e'⟩
  refine⟨ea,C,H,rfl,I.os,I.bare,⟨fun b o e n nf _=>?_,fun b o e n hm _=>J6 b o e hm,hb.free,fun b o e _=>?_,hb.mG,hb.pB,hb.pC⟩,yt I.cf st fl.1 c2,⟨B,a0,fl,c1,c2⟩,hE⟩
  ·obtain⟨o',e1,e2⟩:=hk b o e nf;have e3:=hb.keep b o e n nf (by simp);rw[e3] at e1;cases e1;exact e2
  · by_cases hm:b∈nJ outer
    ·obtain⟨sl,e1⟩:=J6 b o e hm;exact⟨_,e1⟩
    ·obtain⟨o',_,e2⟩:=hk b o e hm;exact⟨o',e2⟩
theorem J7{E':XK}(hE:∀C H,E' C none H→E C none H):Passes (jL P w) (cX (jL P w) P w K mg base N qual scope f cd A outer s₀ H₀ E) E':=by
  intro pins σ H s e s' I h;obtain⟨ea,C,H',rfl,os,bare,un,cf,⟨B,a0,fl,c1,c2⟩,he⟩:=h;have I':Inv (cX (jL P w) P w K mg base N qual scope f cd A outer s₀ H₀ E) pins σ H' s':=I.HL (ch:=[]) os un cf bare (fun b z=>absurd z (by simp));show wpAny _ _ _ _ _ _;have hF:(A.deeper (envOfC qual scope s₀.heap.objs.size f cd)).frames=some (envOfC qual scope s₀.heap.objs.size f cd::outer):=I.ok.frames;refine wpAny_leaves_onW hF rfl fl fun h' Xz up=>?_;have hb:Un (nJ outer) [] H₀ H s₀.heap s.heap:=I.base;refine Ff I' Xz up fl.1 (fun b o e hm=>?_) c2 (hE _ _ he);obtain⟨o',e'⟩:=hb.there b o e (by simp);refine c1 b o' e' fun z=>?_;have z':b=s₀.heap.objs.size∨b∈nJ outer:=by have:b∈nJ (envOfC qual scope s₀.heap.objs.size f cd::outer):=z;simpa[nJ,envOfC] using this
  rcases z' with z'|z'
  ·exact absurd (dR e) (by rw[z'];exact u5 _)
  ·exact hm z'
theorem GY{ea:Addr}{h1:Heap}(I:Inv (cX (jL P w) P w K mg base N qual scope f cd A outer s₀ H₀ E) pins σ H s)(hx:Heap.MadeExcOf s.heap h1 ea (.ref C) vs)(hE:E (.ref C) none H):(cX (jL P w) P w K mg base N qual scope f cd A outer s₀ H₀ E).xe (.ref ea) { s with heap:=h1 }:=by
  show wpAny _ _ _ _ _ _;have hF:(A.deeper (envOfC qual scope s₀.heap.objs.size f cd)).frames=some (envOfC qual scope s₀.heap.objs.size f cd::outer):=I.ok.frames;have hl:s.heap.FunFrames base (envOfC qual scope s₀.heap.objs.size f cd::outer):=I.stack;have QF:∀env∈envOfC qual scope s₀.heap.objs.size f cd::outer,∀a,env.frame=some a→a∈nJ (envOfC qual scope s₀.heap.objs.size f cd::outer):=fun env he a ha=>List.mem_filterMap.mpr ⟨env,he,ha⟩;refine wpAny_leaves_madeW (base:=hideAll s.heap (nJ (envOfC qual scope s₀.heap.objs.size f cd::outer))) (h:=s.heap) hF rfl (fun b o e=>of_hideAll _ e) (funFrames_hide hl QF) hx fun h' t fl _ _ up=>?_;have hb:Un (nJ outer) [] H₀ H s₀.heap s.heap:=I.base;have nin:∀b,b≠s₀.heap.objs.size→b∉nJ outer→b∉nJ (envOfC qual scope s₀.heap.objs.size f cd::outer):=fun b h1 h2 z=>by
    have z':b=s₀.heap.objs.size∨b∈nJ outer:=by simpa[nJ,envOfC] using z
    exact z'.elim h1 h2
  have q:=Ff (s:=s) (h':=h') I fl ((Heap.UpToSlots.of_keeps hx.keeps).trans up) (fun b o e=>of_hideAll _ e) (fun b o e hm=>by
    obtain⟨o',e'⟩:=hb.there b o e (by simp);exact⟨o',hideAll_get _ e' (nin b (iP (dR e)) hm)⟩) (fun b o e=>by
    obtain⟨o',e'⟩:=(I.cf b o e).there;exact⟨o',hideAll_get _ e' fun z=>by have:=I.uL b z;rw[e] at this;cases this⟩) hE
  exact q
end
def lD(K:PySem.W.Frag)(C B:Addr):Bool:=match K.lookup C with
  |some ⟨_,_,.cls cd,_⟩=>cd.mro.contains (.ref B)
  |_=>false
theorem zQ{K:PySem.W.Frag}{bmB:dW}{newId:String}(X:K.In h)(q:excIn K C bmB newId=true):∃bm N nm qn bs hdct sn sub ab col dd k0 k1 k2 k3 k5 mN,h.get? C=some (excClassObj nm qn C N bs bm hdct sn sub ab col dd k0 k1 k2 k3 k5 newId)∧h.Ns N mN∧mN "__init__"=none∧OwnTail h bmB bm∧∀B,lD K C B=true→(Value.ref C::bm).contains (.ref B)=true:=by
  unfold excIn at q;split at q
  case h_1 dd cd sl ho =>
    split at q
    case h_1 C' bm k0 k1 k2 k3 n k5 hm hs =>
      rw[qF,qF,qF,qF,qF] at q;obtain⟨⟨⟨⟨⟨q1,q2⟩,q3⟩,q4⟩,q5⟩,q6⟩:=q;obtain rfl:=qH.mp q1;obtain rfl:=qH.mp q2;rcases cd with⟨nm,bs,mro,ns,qn,hd,sn,sub,ab,col,del⟩
      cases del with
      |true=>cases q3
      |false=>cases hm;have hsl:sl=#[k0,k1,k2,k3,some (.builtin n),k5]:=Array.toList_inj.mp hs;cases hsl;refine⟨bm,ns,nm,qn,bs,hd,sn,sub,ab,col,dd,k0,k1,k2,k3,k5,_,X _ _ ho,.of_isNs (PySem.W.isNs_of_in X q5),PySem.W.nsMap_none_of_in X q5 (qH.mp q6),PySem.W.tail_of_in X q4,fun B hB=>?_⟩;unfold lD at hB;rw[ho] at hB;exact hB
    case h_2=>cases q
  case h_2=>cases q
theorem GZ{g:Array GenState}{d:Drawn}{t:Nat}{os:OsState}{e:Addr}{oe:Obj}{Q:Bool→Shared→Prop}{N:Addr}{nm qn:Str}{bs bm:dW}{hdct:Bool}{sn:g7}{sub:dW}{ab:Bool}{col:Option Bool}{dd:Option Addr}{k0 k1 k2 k3 k5:fV}{newId:String}{B N':Addr}{nm' qn':Str}{bs' Vp:dW}{Oe:Bool}{sn':g7}{Tv:dW}{ab':Bool}{Tw:Option Bool}{PL:Option Addr}{k0' k1' k2' k3' k5':fV}{QG:String}(hC:h.get? C=some (excClassObj nm qn C N bs bm hdct sn sub ab col dd k0 k1 k2 k3 k5 newId))(hB:h.get? B=some (excClassObj nm' qn' B N' bs' Vp Oe sn' Tv ab' Tw PL k0' k1' k2' k3' k5' QG))(he:h.get? e=some oe)(HK:oe.cls=.ref C)(qM:Vp.contains (.type "BaseException")=true)(QF:(Value.ref C::bm).contains (.ref B)=true)(hq:Q true ⟨h,g,d,t,os⟩):wpAny M A (excMatches (.ref e) (.ref B)) Q E ⟨h,g,d,t,os⟩:=by
  have hcB:(Value.ref B::Vp).contains (.type "BaseException")=true:=by rw[List.contains_cons,qM,Bool.or_true]
  have f:=tc_notTuple;unfold excMatches
  repeat (first|(with_reducible refine wpAny_loadPart_at he ?_;rw[HK])|with_reducible refine wpAny_loadPart_at hB ?_|(with_reducible refine wpAny_isSubtype_exc hB ?_;rw[hcB])|(with_reducible refine wpAny_isSubtype_exc hC ?_;rw[QF])|wp_step)
  exact hq
abbrev Fg:dW:=[.type "ValueError",.type "Exception",.type "BaseException",.type "object"]
section
variable {P:Program} {w:World} {K:PySem.W.Frag} {mg:Str→fV} {base:Heap} {N:g7} {qual:Str} {scope:Scope} {f:Addr} {cd:Value} {A:Around} {outer:List Env} {s₀:Shared} {H₀:Hp} {E:XK}
theorem J8{t:TA}{np:Pos}(hg:Gl (cX (jL P w) P w K mg base N qual scope f cd A outer s₀ H₀ E) x)(hm:mg x=some (.ref C))(hq:excIn K C Fg "ValueError.__new__"=true)(ha:PA (cX (jL P w) P w K mg base N qual scope f cd A outer s₀ H₀ E) [e] t)(he:starEach [e] (cX (jL P w) P w K mg base N qual scope f cd A outer s₀ H₀ E).env=(false,eval e (cX (jL P w) P w K mg base N qual scope f cd A outer s₀ H₀ E).env)::starEach [] (cX (jL P w) P w K mg base N qual scope f cd A outer s₀ H₀ E).env:=by rfl)(jz:(backTo eU (starEach [e] (cX (jL P w) P w K mg base N qual scope f cd A outer s₀ H₀ E).env)).any (·.1)=false:=by rfl)(hd:(x==("__debug__":Str))=false:=by decide):PS (cX (jL P w) P w K mg base N qual scope f cd A outer s₀ H₀ E) (.Raise (some (.Call (.Name x np) [e] [] eU)) none pos) (fun _ σ H=>t σ H fun vs H1=>vs.length≤sizeLine∧E (.ref C) none H1):=by
  intro pins s σ H D I h;obtain⟨bm,N',nm,qn,bs,hdct,sn,sub,ab,col,dd,k0,k1,k2,k3,k5,mN,hC,hN,hni,T,_⟩:=zQ I.mod.Nx hq;refine wpAny_Raise_call_subU (C:=C) (nm:=nm) (q:=qn) (N:=N') (bs:=bs) (bm:=bm) (hdct:=hdct) (sn:=sn) (sub:=sub) (ab:=ab) (col:=col) (dd:=dd) (k0:=k0) (k1:=k1) (k2:=k2) (k3:=k3) (k5:=k5)
    PySem.F.excBase_ValueError PySem.F.excBase_ValueError.hasB PySem.F.excBase_ValueError (mN:=mN) (T.hasType PySem.F.excBase_ValueError.hasBase) (I.ok.hd rfl) jz hni (qJ I hg hm ⟨rfl,?_⟩ hd)
  have h':=ha eU pins s σ H _ I h;rw[he] at h'⊢;exact Calls.evalArgs_plain (fW h' fun us s2 ⟨vs,H1,I1,r,hl,q⟩=>⟨rfl,by rw[←r.length];exact hl,I1.bk _ _ hC,hN.keeps I1.bk,T.keeps I1.bk,fun h' e hm=>GY I1 hm q⟩)
end
section
variable {X:Cx} {pins:jc} {σ:St} {H:Hp} {s:Shared}
theorem MP{Q:Unit→Shared→Prop}(I:Inv X pins σ H s)(hN:X.N.Nodup)(hi:X.N[i]?=some x)(hx:X.env.kindOf x=some .local)(h:∀s',Inv X pins (σ.set i none) H s'→Q () s'):wpAny M A (do bindName X.env x .none;unbindBehindTheSuite X.env x pos) Q E s:=by
  obtain⟨m,hn,hl⟩:=id I.loc;have HK:(X.env.scope.kind==.class||(X.env.scope.kind==.module&&X.env.locals != X.env.globals))=false:=by rw[I.ok.kind];rfl
  have U8:i<σ.length:=by rw[I.len];exact(u0.mp hi).1
  have HJ:=I.HJ;refine wpAny_nameGoes_keeps hx hn HK fun h' v OJ hs=>h _ ⟨I.ok,I.os,I.bare,⟨fun b o e n hb hx=>?_,fun b o e n hb hx=>?_,I.base.free,fun b o e hx=>?_,I.base.mG,I.base.pB,I.base.pC⟩,⟨_,OJ,fun j y v' e1 e2 e3=>?_⟩,fun y c e=>?_,I.free,I.g8,fun p hp=>?_,fun b ob e=>?_,by simpa using I.len⟩
  ·exact(hs.2 b (iP (jY (dR e) I.ok.above))).trans (I.base.keep b o e n hb hx)
  ·obtain⟨sl,e1⟩:=I.base.slot b o e n hb hx;exact⟨sl,(hs.2 b (iP (jY (dR e) I.ok.above))).trans e1⟩
  ·obtain⟨o',e1⟩:=I.base.there b o e hx;exact⟨o',(hs.2 b (iP (jY (dR e) I.ok.above))).trans e1⟩
  · by_cases hj:j=i
    ·subst hj;rw[Ap U8] at e2;cases e2
    · rw[xo (Ne.symm hj)] at e2;obtain⟨u',r',q⟩:=hl j y v' e1 e2 e3;refine⟨u',r',?_⟩;rcases q with⟨k,e⟩|⟨k,c,e,z⟩
      ·refine .inl ⟨k,?_⟩;have:y≠x:=fun e=>hj (u9 hN e1 (e▸hi));simp[this,e]
      ·exact .inr ⟨k,c,e,z.sameBut hs (HJ y c e)⟩
  ·obtain⟨w',z⟩:=I.cell y c e;exact⟨w',z.sameBut hs (HJ y c e)⟩
  ·obtain⟨e,n,ne,nf,d⟩:=I.pin p hp;exact⟨(hs.2 p.1 ne).trans e,n,ne,nf,d⟩
  · refine(I.cf b ob e).mF (fun c w' hc q=>(hs.2 c ?_).trans q) (fun _ q=>q) fun _ _ q=>q;rintro rfl;rcases hc with z|z
    ·have:=I.free;rw[z,e] at this;cases this
    ·have:=I.free;rw[z] at this;cases this
end
end L2
namespace PySem.W
open PySem PySem.Spec PySem.Calls PyProof.Rows Builtin Builtin.ObjectAttr Builtin.Getset_descriptor
section
variable {prog:Program} {w:World} {A:Around} {E:kX} {s:Shared} {K:Frag} {x C D:Addr} {ox:Obj} {od:Obj} {odo:Option Obj} {name:Str}
theorem wc(hx:h.get? x=some ox)(hc:ox.cls=.ref C):Looks (model prog w) h (typeOf (.ref x)) (.ref C):=hc▸(Looks.ld hx).andThen .now
theorem xK{R:Result→Shared→Prop}{tp:Value}(X:K.In s.heap)(hx:s.heap.get? x=some ox)(hc:ox.cls=.ref C)(hm:mroIn K C (.type "object")=some true)(k:R (.ok (.ret (.ref C))) s):codeAny (model prog w) A (.call (.builtin "getset_descriptor.__get__") ⟨[.builtin "object.__class__",.ref x,tp],[]⟩) R s:=by
  obtain⟨hp,gs,dr,tk,os⟩:=s;have ty:=wc (prog:=prog) (w:=w) hx hc;have up:=looks_mroIn (M:=model prog w) X hm;refine codeAny_call_builtin KF.slot_gs.plain KF.entry_gs (KF.slot_gs.check _ _ _ _ _ _ _ _ KF.type_class (KF.args_gs _ _ _) ?_);unfold Builtin.«getset_descriptor.__get__» descrGet descrGetter descrCheckInstance descrNameAndClass isInstance;rw[dga_obj];refine de (cU ?_);simp only[KF.owner_class]
  repeat lk
  refine And.intro (Code.quiet_builtin _ (by decide +kernel)) (codeAny_builtin KF.entry_class ?_);unfold Builtin.«object.__class__»;unfold shownTypeOf
  repeat lk
  exact k
theorem G0{Q:fV→Shared→Prop}(X:K.In s.heap)(hx:s.heap.get? x=some ox)(hc:ox.cls=.ref C)(hga:findIn K (.ref C) "__getattribute__"=some (some (.builtin "BaseException.__getattribute__")))(hgt:findIn K (.ref C) "__getattr__"=some none)(ha:findIn K (.ref C) "__class__"=some (some (.builtin "object.__class__")))(hn:specialIn K (.builtin "object.__class__") "__get__"=some (some (.builtin "getset_descriptor.__get__")))(NM:takesIn K (.builtin "object.__class__")=some true)(hm:mroIn K C (.type "object")=some true)(hmB:mroIn K C (.type "BaseException")=some true)(h:Q (some (.ref C)) { s with toks:=s.toks+1 }):wpAny (model prog w) A (getAttr? (.ref x) "__class__") Q E s:=by
  obtain⟨hp,gs,dr,tk,os⟩:=s;have ty:=wc (prog:=prog) (w:=w) hx hc;have f1:=looks_findIn (M:=model prog w) X hga;have f2:=looks_findIn (M:=model prog w) X hgt;have f3:=looks_mroIn (M:=model prog w) X hmB;have f4:Looks (model prog w) hp (Builtin.ObjectAttr.dataDescriptor? (some (.builtin "object.__class__")) (some (.builtin "getset_descriptor.__get__"))) (some (.builtin "getset_descriptor.__get__",.builtin "object.__class__")):=(looks_takesIn X NM).andThen .now;have f5:Looks (model prog w) hp (Builtin.ObjectAttr.find (.ref x) (.ref C) "__class__") (.bind (.builtin "getset_descriptor.__get__") (.builtin "object.__class__")):=(looks_findIn X ha).andThen ((looks_specialIn X hn).andThen (f4.andThen (Looks.tag .now)));have own:(onTheHeap (Value.ref C)&&Value.builtin "BaseException.__getattribute__"==Value.builtin "object.__getattribute__")=false:=(hJ (true&&·) (by decide +kernel:(Value.builtin "BaseException.__getattribute__"==Value.builtin "object.__getattribute__")=false)).trans rfl;have bound:=PySem.F.attrBase_ValueError.ga.bind (.ref x);have asks:=PySem.F.args_bexc_ga (.ref x) (.str "__class__" tk);have kd:builtinKind "BaseException.__getattribute__"=some .slot∧splitId "BaseException.__getattribute__"=some ("BaseException","__getattribute__"):=⟨by decide +kernel,by decide +kernel⟩
  refine de (wpAny_mkText (de (wpAny_attempt (uw ?_))));refine de (ty.at (de (f1.at ?_)));dsimp only;rw[own,bS jZ];refine de (f2.at (de (wpAny_attempt (uw ?_))));unfold callGetattribute boundAndCalled;rw[show(false&&onTheHeap (Value.builtin "BaseException.__getattribute__"))=false from rfl,bS (by decide),bound];refine de (cU (wpAny_call (codeAny_call_builtin PySem.F.attrBase_ValueError.ga.plain PySem.F.entry_bexc_ga ?_)));dsimp only[List.append,List.cons_append,List.nil_append];simp only[checkBuiltinCall,kd.1,kd.2];refine de ?_;unfold isInstance
  repeat lk
  refine(wpAny_run (c:=Code.call (Value.builtin "getset_descriptor.__get__") { pos:=[Value.builtin "object.__class__",Value.ref x,Value.ref C] }) (h:=none) ?_:wpAny (model prog w) A.in1 (run _ none) _ _ _);exact xK (s:=⟨hp,gs,dr,tk+1,os⟩) X hx hc hm (cU (cU (handed_on rfl (cU h))))
structure yu (K:Frag) (C:Addr):Prop where
  cl:(clsIn K C).isSome=true
  ga:findIn K (.ref C) "__getattribute__"=some (some (.builtin "BaseException.__getattribute__"))
  gt:findIn K (.ref C) "__getattr__"=some none
  ha:findIn K (.ref C) "__class__"=some (some (.builtin "object.__class__"))
  hn:specialIn K (.builtin "object.__class__") "__get__"=some (some (.builtin "getset_descriptor.__get__"))
  NM:takesIn K (.builtin "object.__class__")=some true
  hm:mroIn K C (.type "object")=some true
  hb:mroIn K C (.type "BaseException")=some true
theorem J9(O:yu K C):KitX K (.ref x) (.ref C) (fun h=>∃o,h.get? x=some o∧o.cls=.ref C) where
  ty:=fun _ _ _ ⟨o,hx,hc⟩=>hc▸(Looks.ld hx).andThen .now
  it:=fun _ _ X _=>by
    obtain⟨cd,ji⟩:=Option.isSome_iff_exists.mp O.cl;unfold clsIn at ji;split at ji
    case h_1 ho =>
      intro A' Q' E' s' k q;unfold isType loadHead;exact de (wpAny_loadPart (k _ _ (X _ _ ho)) (cU q))
    case h_2=>cases ji
  ne:=fun h tp dd its n sl X htp=>by
    obtain⟨cd,ji⟩:=Option.isSome_iff_exists.mp O.cl;cases q:(Value.ref C==Value.ref tp) with
    |false=>rfl
    |true =>
     have e:C=tp:=Value.ref.inj (qH.mp q);unfold clsIn at ji;split at ji
     case h_1 ho =>
       have z:=X _ _ ho;rw[e,htp] at z;cases z
     case h_2=>cases ji
  ca:=fun X ⟨_,hx,hc⟩ k=>G0 X hx hc O.ga O.gt O.ha O.hn O.NM O.hm O.hb k
end
end PySem.W
namespace L2
open PySem PySem.Spec PyProof.Rows PySem.W
section
variable {X:Cx}
theorem rK{c:V}{cu:Value}(hc:RelV c cu)(hcu:∀u,RelV c u→u=cu):lT X (.builtin "isinstance") (fun xs H Q=>∃a C b,xs=[.ref a,c]∧H a=some (.ext (DL.lW a C))∧yu X.K C∧kitOne X.K (.ref C) cu=some b∧Q (.bl b) H):=by
  intro pins s σ H xs us Q I r h;obtain⟨a,C,b,rfl,ha,O,e,q⟩:=h;obtain⟨u,v,rfl,ru,rv⟩:=vals2 r;cases ru;cases hcu _ rv;obtain⟨⟨o,h1,h2⟩,_⟩:=(show bU X.prog X.w H s.heap a (.ext (DL.lW a C)) from I.cf a _ ha)
  exact kia_one (J9 O) I.qI ⟨o,h1,h2⟩ e (fun z=>nomatch z) fun tk=>⟨.bl b,H,I.tok tk,rfl,q⟩
end
section
variable {X:Cx} {pins:jc} {σ:St} {H:Hp} {s s':Shared}
theorem MQ{ea:Addr}{B' h6:Heap}{a0:Value}(I:Inv X pins σ H s)(os:s'.os=s.os)(bare:AllBare s'.gens)(un:Un (nJ X.stack) [] H H' s.heap s'.heap)(cf:oM X.prog X.w H' s'.heap)(fl:Heap.FlyingW B' X.stack ea (.ref C) a0 s'.heap)(c1:∀b o,s.heap.get? b=some o→b∉nJ X.stack→∃o',B'.get? b=some o')(c2:∀b o,H' b=some o→∃o',B'.get? b=some o')(st:B'.StaysIn h6)(up:s'.heap.UpToSlots h6)(there:∃ob,h6.get? ea=some ob∧ob.cls=.ref C):H' ea=none∧Inv X pins σ (upd H' ea (.ext (DL.lW ea C))) { s' with heap:=h6 }:=by
  have hea:B'.get? ea=none:=fl.2.1;have hn:H' ea=none:=by
    cases q:H' ea with
    |none=>rfl
    |some o=>obtain⟨o',e⟩:=c2 _ _ q;rw[hea] at e;cases e
  have fr:∀b o,s.heap.get? b=some o→b∈nJ X.stack→∃sl,s'.heap.get? b=some { o with slots:=sl }∧∀vs,o.data≠.fields vs:=fun b o e hb=>by obtain⟨_,o2,e2,MN⟩:=I.stack.mem hb;rw[e] at e2;cases e2;obtain⟨sl,e3⟩:=un.slot b o e (I.uL b hb) hb (by simp);exact⟨sl,e3,MN⟩
  have ne:∀b o,s.heap.get? b=some o→b≠ea:=fun b o e z=>by
    subst z;by_cases hb:b∈nJ X.stack
    ·obtain⟨sl,e3,MN⟩:=fr b o e hb;obtain⟨_,_,_,oe,vs,_,_,_,he,_,hd,_⟩:=fl;rw[e3] at he;cases he;exact MN vs hd
    ·obtain⟨o',e'⟩:=c1 b o e hb;rw[hea] at e';cases e'
  have up1:∀{b:Addr} {o:HO},H' b=some o→(upd H' ea (.ext (DL.lW ea C))) b=some o:=fun {b o} q=>by unfold upd;rw[bS (fun z=>by rw[z,hn] at q;cases q)];exact q
  refine⟨hn,I.HL (s':={ s' with heap:=h6 }) (ch:=[]) os ⟨fun b o e n nf _=>?_,fun b o e n hb _=>?_,fun b o e n _=>?_,fun b o e _=>?_,fun b xs e=>up1 (un.mG b xs e),fun b o u e=>up1 (un.pB b o u e),fun b ps e=>?_⟩ (fun a o q=>?_) bare (fun b z=>absurd z (by simp))⟩
  ·obtain⟨o',e'⟩:=c1 b o e nf;have e1:=fl.1 b o' e';rw[un.keep b o e n nf (by simp)] at e1;cases e1;exact st b _ e'
  ·obtain⟨sl,e3,MN⟩:=fr b o e hb;obtain⟨Hx,e4⟩:=up b _ e3 MN;exact⟨Hx,e4⟩
  ·have:=un.free b o e n (by simp);unfold upd;rw[bS (ne b o e)];exact this
  · by_cases hb:b∈nJ X.stack
    ·obtain⟨sl,e3,MN⟩:=fr b o e hb;obtain⟨Hx,e4⟩:=up b _ e3 MN;exact⟨_,e4⟩
    ·obtain⟨o',e'⟩:=c1 b o e hb;exact⟨o',st b _ e'⟩
  ·obtain⟨more,e1⟩:=un.pC b ps e;exact⟨more,up1 e1⟩
  · by_cases ha:a=ea
    · subst ha;have q':(upd H' a (.ext (DL.lW a C))) a=some (.ext (DL.lW a C)):=by unfold upd;rw[bR rfl]
      rw[q'] at q;cases q;obtain⟨ob,e1,e2⟩:=there;exact⟨⟨ob,e1,e2⟩,⟨ob,e1⟩,fun h1 h2 ⟨o,e3,e4⟩ k=>⟨o,k o e3,e4⟩⟩
    · have q':H' a=some o:=by unfold upd at q;rw[bS ha] at q;exact q
      exact(yt cf fl.1 st c2 a o q').mF (fun b u _ e=>e) (fun b e=>up1 e) (fun b xs e=>up1 e)
def Cx.within(X:Cx)(e:Value)(xe:kX):Cx:={ X with A:=X.A.mark (some e),calm:=false,xe:=xe }
theorem Inv.within(I:Inv X pins σ H s)(e:Value)(xe:kX):Inv (X.within e xe) pins σ H s :=
  ⟨⟨I.ok.mod,I.ok.kind,I.ok.glob,I.ok.blt,I.ok.above,I.ok.inj,I.ok.has,I.ok.Ny,(fun z=>nomatch z),I.ok.frames,I.ok.OG,I.ok.RJ,I.ok.bs,I.ok.Lb,I.ok.Au,I.ok.Ck,I.ok.pZ,I.ok.Lc⟩,I.os,I.bare,I.base,I.loc,I.cell,I.free,I.g8,I.pin,I.cf,I.len⟩
theorem Inv.without{e:Value}{xe:kX}(hd:X.calm=true→X.A.handled=none)(I:Inv (X.within e xe) pins σ H s):Inv X pins σ H s :=
  ⟨⟨I.ok.mod,I.ok.kind,I.ok.glob,I.ok.blt,I.ok.above,I.ok.inj,I.ok.has,I.ok.Ny,hd,I.ok.frames,I.ok.OG,I.ok.RJ,I.ok.bs,I.ok.Lb,I.ok.Au,I.ok.Ck,I.ok.pZ,I.ok.Lc⟩,I.os,I.bare,I.base,I.loc,I.cell,I.free,I.g8,I.pin,I.cf,I.len⟩
theorem Bx{B n c:Str}{Bc:Addr}{np pc pn QH apos:Pos}{j:Nat}{E:XK}{e:Value}{D:Ends}(I:Inv X pins σ H s)(hX:jL X.prog X.w X.stack H s E e s')(Ka:X.stack=X.env::X.outer)(hf:X.env.frame=some X.env.locals)(Rw:X.N.Nodup)(hg:Gl X B)(hm:X.mg B=some (.ref Bc))(hB:excIn X.K Bc Fg "ValueError.__new__"=true)(hi:X.N[i]?=some n)(hn:X.env.kindOf n=some .local)(Tx:Loc X.env.scope n)(Rv:X.env.scope.names.lookup n=some .local)(hj:X.N[j]?=some c)(Tz:Loc X.env.scope c)(Lf:X.fn c=true∨X.env.scope.names.lookup c=some .local)(vq:i≠j)(hE:∀C H',E (.ref C) none H'→excIn X.K C Fg "ValueError.__new__"=true∧lD X.K C Bc=true∧∀a,H' a=none→D.nx (((σ.set i (some (.ref a))).set j (some (.ref a))).set i none) (upd H' a (.ext (DL.lW a C))))(hv:Am X.env.scope n)(TB:(B==("__debug__":Str))=false:=by decide)(Vq:(n==("__debug__":Str))=false:=by decide)(hd2:(n==("__classdict__":Str))=false:=by decide)(hs:swapsWith (.Name n pn) (some (.Name c pc)) apos.line X.env=pure false:=by rfl):wpAny (model X.prog X.w) X.A (noteFrame e X.env) (fun _ s₂=>wpAny (model X.prog X.w) X.A (setFlight e none) (fun _ s₃=>wpAny (model X.prog X.w) X.A (handleBy e X.env [.ExceptHandler (some (.Name B np)) (some n) [.Assign [.Name c pc] (.Name n pn) apos] QH]) (SP X pins D) X.xe s₃) X.xe s₂) X.xe s':=by
  obtain⟨ea,C,H',rfl,os,bare,un,cf,⟨B',a0,fl,c1,c2⟩,he⟩:=hX;obtain⟨hq,XA,hk⟩:=hE C H' he;have J6:X.A.frames=some (X.env::X.outer):=by rw[I.ok.frames,Ka]
  have Xz:Heap.FlyingW B' (X.env::X.outer) ea (.ref C) a0 s'.heap:=Ka▸fl;refine wpAny_looks_onW J6 hf Xz fun h4 TC up4=>?_;refine wpAny_landsW TC fun h5 XB up5=>?_;have Og:∀b o,X.base.get? b=some o→h5.get? b=some o:=fun b o e=>by
    obtain⟨e1,e2⟩:=I.bs b o e;have nf:b∉nJ X.stack:=fun hb=>by have:=(I.stack.mem hb).1;rw[e] at this;cases this
    obtain⟨o',e'⟩:=c1 b o e1 nf;have e3:=fl.1 b o' e';rw[un.keep b o e1 e2 nf (by simp)] at e3;cases e3;exact XB.1 b _ e'
  have TH:X.K.In h5:=I.ok.mod.Nx.keeps Og;obtain⟨bm,N1,nm,qn,bs,hdct,sn,sub,ab,col,dd,k0,k1,k2,k3,k5,mN,hC,_,_,_,hmr⟩:=zQ TH hq;obtain⟨Vp,N1',nm',qn',bs',Oe,sn',Tv,ab',Tw,PL,k0',k1',k2',k3',k5',mN',hBo,_,_,T,_⟩:=zQ TH hB;obtain⟨ob,hob,XC⟩:=XB.there;refine wpAny_handleBy_cons (codeAny_handlers_test (Calls.Name_function_global I.ok.kind hg (Calls.loadGlobal_global (by rw[I.ok.glob];exact I.mod.glob.keeps Og) hm ?_) TB)) (by intro q;cases q);refine GZ hC hBo hob XC (T.hasType PySem.F.excBase_ValueError.hasBase) (hmr _ XA) (codeAny_handlers_suite_as ?_);refine lands_againW XB fun h6 fl6 up6=>?_;obtain⟨TJ,I6⟩:=MQ I os bare un cf fl c1 c2 fl6.1 ((up4.trans up5).trans up6) fl6.there;refine vd I6 Rw hi Tx (v:=.ref ea) rfl (fun s7 I7=>?_) (.inr Rv);refine j4 ((D7 (yU (X:=X.within (.ref ea) _) Rw hj Tz (jj hi hv Vq hd2) hs Lf)) pins s7 _ _ { nx:=fun σ8 H8=>σ8=(σ.set i (some (.ref ea))).set j (some (.ref ea))∧H8=upd H' ea (.ext (DL.lW ea C)),rt:=fun _ _=>False } (I7.within _ _) ?_) (fun f8 s8 h8=>?_) (fun _ _ z=>z)
  ·refine⟨_,?_,rfl,rfl⟩;rw[Ap (by rw[I.len];exact(u0.mp hi).1)]
  · cases f8 with
    |next=>obtain⟨σ8,H8,I8,rfl,rfl⟩:=h8;exact MP (I8.without I.ok.hd) Rw hi hn fun s9 I9=>⟨_,_,I9,hk ea TJ⟩
    |ret u=>obtain⟨_,_,_,_,_,z⟩:=h8;exact z.elim
    |brk=>obtain⟨_,_,_,z⟩:=h8;exact z.elim
    |cont=>obtain⟨_,_,_,z⟩:=h8;exact z.elim
end
end L2
namespace DL
open PySem PySem.Spec L2
open PyProof.Rows hiding St pairAt
def MR(K:PySem.W.Frag)(F H:Hp)(r:Slot)(Q:VK)(E:XK):Prop :=
  match r with
  |.pn C _=>∀H' F',bu F H F' H'→E (.ref C) none H'
  |r=>yi K F H r Q
def MS(K:PySem.W.Frag)(ms:List Bool)(Fn:eY→fU):Sp:=fun vs H Q E=>∃F ds r,Base F H∧ix K F H ms ds vs∧Fn ds=some r∧MR K F H r Q E
abbrev zX(F H:Hp)(E:XK):Zc:=⟨F,H,fun C H'=>E (.ref C) none H'⟩
theorem Fh{K:PySem.W.Frag}{base:Heap}{st:Stmt}{ps:g7}{g:SF}(Fu:nc K x qual st f fd)(S:bB N ps (ah st))(IZ:ms.length=ps.length)(hb:∀(fT:Value) (A:Around) (outer:List Env) (s:Shared) (H:Hp) (E:XK) (F₀:Hp),eW k (A.deeper (envOfC qual (ah st) s.heap.objs.size f fT))→Gu (cX (jL P w) P w K mg base N qual (ah st) f fT A outer s H E) (zX F₀ H E) (bf st) g):dw P w K mg base (jL P w) (k+1) f fd ps (MS K ms (kQ N.length ms g)):=by
  obtain⟨oc,od,kV,doc,pm,an,fT,ct,HC,rfl,lk,ji⟩:=Fu.ex;refine Ee lk ji S (fun vs H Q E h=>?_) (fun A outer s H vs Q E hr h=>?_)
  ·obtain⟨F,ds,r,_,a,_⟩:=h;rw[←IZ,(gG a).1]
  · obtain⟨F,ds,r,b,a,e,q⟩:=h;refine⟨_,hb fT A outer s H E F hr,?_⟩;have rl:Rel K (zX F H E) F H (L2.start N vs) (dA N.length ms ds):=kb b a;unfold kQ at e;cases o:g (dA N.length ms ds) with
    |none=>rw[o] at e;cases e
    |some o' =>
     rw[o] at e;refine⟨_,F,o',rl,o,?_⟩;cases o' with
     |rt r'=>cases e;cases r<;>exact q
     |nx η'=>cases e;exact fun σ' H' F' r' _=>q .non H' F' r'.mem (bO.mpr rfl)
     |bk _=>cases e
     |ct _=>cases e
structure uE (P:Program) (w:World) (K:PySem.W.Frag) (mg:Str→fV) (base:Heap) (k:Nat) (f:Addr) (ps:g7) (sp:Sp):Prop where
  ex:∃fd,dw P w K mg base (jL P w) k f fd ps sp∧Binds K fd ps []∧keepIn K (.ref f)=true
def Dl(C:Addr):SF:=fun _=>some (.rt (.pn C .non))
section
variable {P:Program} {w:World} {K:PySem.W.Frag} {mg:Str→fV} {base:Heap} {N:g7} {qual:Str} {scope:Scope} {f:Addr} {cd:Value} {A:Around} {outer:List Env} {s₀:Shared} {H₀:Hp} {E:XK} {F₀:Hp}
theorem By{m:Str}{j:_}{np mp:Pos}(hg:Gl (cX (jL P w) P w K mg base N qual scope f cd A outer s₀ H₀ E) x)(hm:mg x=some (.ref C))(hq:excIn K C Fg "ValueError.__new__"=true)(he:starEach [.Constant (.str m) j mp] (cX (jL P w) P w K mg base N qual scope f cd A outer s₀ H₀ E).env=(false,eval (.Constant (.str m) j mp) (cX (jL P w) P w K mg base N qual scope f cd A outer s₀ H₀ E).env)::starEach [] (cX (jL P w) P w K mg base N qual scope f cd A outer s₀ H₀ E).env:=by rfl)(jz:(backTo eU (starEach [.Constant (.str m) j mp] (cX (jL P w) P w K mg base N qual scope f cd A outer s₀ H₀ E).env)).any (·.1)=false:=by rfl)(hd:(x==("__debug__":Str))=false:=by decide):DS (cX (jL P w) P w K mg base N qual scope f cd A outer s₀ H₀ E) (zX F₀ H₀ E) (.Raise (some (.Call (.Name x np) [.Constant (.str m) j mp] [] eU)) none pos) (Dl C) :=
  PS.weak (J8 hg hm hq (av (z:=zX F₀ H₀ E) kz az he) he jz hd) fun D σ H ⟨η,F,o,r,e,k⟩=>by cases e;refine⟨η,F,[.str m],r,rfl,fun vs H' F' g a=>⟨?_,k H' F' (r.mem.trans g)⟩⟩;have:=(gG a).1;rw[←this,mD];decide
end
section
variable {K:PySem.W.Frag} {z:Zc} {F H:Hp} {σ:St} {η:cD}
theorem Rel.unset(r:Rel K z F H σ η)(i:Nat):Rel K z F H (σ.set i none) (η.set i none):=by
  have key:∀(k:Nat) sl,(η.set i none)[k]?=some (some sl)→k≠i∧η[k]?=some (some sl):=fun k sl e=>by
    by_cases h:k=i
    ·subst h;rw[List.getElem?_set] at e;rw[bR rfl] at e;split at e<;>cases e
    ·rw[xo (Ne.symm h)] at e;exact⟨h,e⟩
  have back:∀(k:Nat),k≠i→(σ.set i none)[k]?=σ[k]?:=fun k h=>xo (Ne.symm h);refine⟨r.mem,by simpa using r.len,fun k sl e=>?_,fun a b sa sb va vb p xD ea eb oa ob wa wb=>?_⟩
  ·obtain⟨h,e⟩:=key k sl e;rw[back k h];exact r.at_ k sl e
  ·obtain⟨h1,e1⟩:=key a sa ea;obtain⟨h2,e2⟩:=key b sb eb;rw[back a h1] at wa;rw[back b h2] at wb;exact r.apart a b sa sb va vb p xD e1 e2 oa ob wa wb
end
def Fi(K:PySem.W.Frag)(Bc:Addr)(ok:List Addr):Prop:=∀C,ok.contains C=true→excIn K C Fg "ValueError.__new__"=true∧lD K C Bc=true
theorem G3{K:PySem.W.Frag}{Bc:Addr}:Fi K Bc []:=fun _ h=>nomatch h
theorem Dm{K:PySem.W.Frag}{Bc:Addr}{ok:List Addr}(h1:excIn K C Fg "ValueError.__new__"=true)(h2:lD K C Bc=true)(r:Fi K Bc ok):Fi K Bc (C::ok):=fun C' h=>by
  rw[List.contains_cons,Bool.or_eq_true] at h;rcases h with h|h
  ·rw[qH.mp h];exact⟨h1,h2⟩
  ·exact r C' h
section
variable {X:Cx} {z:Zc} {e:Expr} {es:List Expr} {fs:LF} {ms:List Bool} {pos p:Pos}
theorem MT{ps:g7}{sp:Sp}{t:TA}(C:uE X.prog X.w X.K X.mg X.base k f ps sp)(hr:eW k X.A)(hg:Gl X x)(hm:X.mg x=some (.ref f))(ha:PA X (e::es) t)(lU:(x==("__debug__":Str))=false:=by decide)(he:starEach (e::es) X.env=(false,eval e X.env)::starEach es X.env:=by rfl)(jz:(backTo pos (starEach es X.env)).any (·.1)=false:=by rfl):PE X (.Call (.Name x p) (e::es) [] pos) (HZ sp [] (fun _ _ _=>False) t):=by
  obtain⟨fd,G,b,kp⟩:=C.ex;exact Ed G hr hg hm kp b .nil (fun pins σ H s e s' I h=>by obtain⟨_,_,_,_,_,_,_,_,_,z⟩:=h;exact z.elim) ha lU he jz
def rL(tb:List (Addr×Bool))(fo:EF):EF:=fun η=>(fo η).bind fun d=>match d with
  |.exc C=>(tb.lookup C).map D.bl
  |_=>none
def tF(K:PySem.W.Frag)(c:Value)(tb:List (Addr×Bool)):Prop:=∀C b,tb.lookup C=some b→PySem.W.yu K C∧PySem.W.kitOne K (.ref C) c=some b
theorem fQ{K:PySem.W.Frag}{c:Value}:tF K c []:=fun _ _ h=>nomatch h
theorem eG{K:PySem.W.Frag}{c:Value}{b:Bool}{tb:List (Addr×Bool)}(h:PySem.W.yu K C)(hk:PySem.W.kitOne K (.ref C) c=some b)(r:tF K c tb):tF K c ((C,b)::tb):=fun C' b' q=>by
  rw[u3] at q;split at q
  ·rename_i hb;cases q;rw[qH.mp hb];exact⟨h,hk⟩
  ·exact r C' b' q
variable {fo:EF} {x:Str}
theorem Bz{K:PySem.W.Frag}{tb:List (Addr×Bool)}{c:V}{cu:Value}(hT:tF K cu tb):∀σ H Q,vE K z (rL tb fo) σ H Q→(∃η F d,Rel K z F H σ η∧fo η=some d∧∀v H' F',bu F H F' H'→Den K F' d v→∃a C b,[v,c]=[.ref a,c]∧H' a=some (.ext (lW a C))∧PySem.W.yu K C∧PySem.W.kitOne K (.ref C) cu=some b∧Q (.bl b) H'):=fun σ H Q ⟨η,F,d,r,e,k⟩=>by
  unfold rL at e;obtain⟨d',h1,h2⟩:=eS.mp e;cases d' with
  |exc C=>obtain⟨b,h3,h4⟩:=pv.mp h2;subst h4;obtain⟨i,hk⟩:=hT C b h3;refine⟨η,F,_,r,h1,fun v H' F' g q=>?_⟩;obtain⟨a,rfl,hF⟩:=gU.mp q;exact⟨a,C,b,rfl,g.base.sub _ _ hF,i,hk,k _ H' F' g (bK.mpr rfl)⟩
  |_=>cases h2
theorem og{tb:List (Addr×Bool)}{W:Addr}(hT:tF X.K (.ref W) tb)(hg:Gl X "isinstance")(hm:X.mg "isinstance"=none)(zC:Gl X x)(xJ:X.mg x=some (.ref W))(ha:DE X z e fo)(hs:starEach [e,.Name x p] X.env=(false,eval e X.env)::starEach [.Name x p] X.env:=by rfl)(yW:starEach [.Name x p] X.env=(false,eval (.Name x p) X.env)::starEach [] X.env:=by rfl)(jz:(backTo pos (starEach [.Name x p] X.env)).any (·.1)=false:=by rfl)(lU:(x==("__debug__":Str))=false:=by decide):DE X z (.Call (.Name "isinstance" p2) [e,.Name x p] [] pos) (rL tb fo) :=
  PE.weak (iQ (rK (c:=.ref W) (cu:=.ref W) rfl fun u h=>h) hg hm jA (cF ha (cF (yS (v:=.ref W) zC xJ rfl lU) gC yW) hs) (by decide) (by decide) hs jz) fun σ H Q h=>Bz hT σ H Q h
theorem MV{tb:List (Addr×Bool)}{T:String}(hT:tF X.K (.type T) tb)(hg:Gl X "isinstance")(hm:X.mg "isinstance"=none)(zC:Gl X x)(xJ:X.mg x=none)(hv:bootBuiltins x=some (.type T))(ha:DE X z e fo)(hn:x≠"__name__":=by decide)(hs:starEach [e,.Name x p] X.env=(false,eval e X.env)::starEach [.Name x p] X.env:=by rfl)(yW:starEach [.Name x p] X.env=(false,eval (.Name x p) X.env)::starEach [] X.env:=by rfl)(jz:(backTo pos (starEach [.Name x p] X.env)).any (·.1)=false:=by rfl)(lU:(x==("__debug__":Str))=false:=by decide):DE X z (.Call (.Name "isinstance" p2) [e,.Name x p] [] pos) (rL tb fo) :=
  PE.weak (iQ (rK (c:=.ty T) (cu:=.type T) rfl fun u h=>h) hg hm jA (cF ha (cF (D6 (v:=.ty T) zC xJ hv rfl hn lU) gC yW) hs) (by decide) (by decide) hs jz) fun σ H Q h=>Bz hT σ H Q h
end
section
variable {X:Cx} {z:Zc} {e:Expr} {f:EF} {pos p:Pos}
theorem xM:bootBuiltins "ValueError"=some (.type "ValueError"):=by decide +kernel
theorem Kc{K:PySem.W.Frag}:PySem.W.kitOne K (.ref C) (.ref C)=some true:=by unfold PySem.W.kitOne;simp
theorem ql{K:PySem.W.Frag}{W:Addr}{cd:ClassData}{b:Bool}(mz:C≠W)(hc:PySem.W.clsIn K W=some cd)(ht:typeIn K (.ref W)=some (.type "type"))(hs:subIn K (.ref C) (.ref W)=some b):PySem.W.kitOne K (.ref C) (.ref W)=some b:=by unfold PySem.W.kitOne;rw[bS (fun h=>mz (Value.ref.inj (qH.mp h)))];unfold kitCls;simp only[hc,ht,hs,Option.isSome_some,Bool.true_and,beq_self_eq_true,iq]
theorem MX{K:PySem.W.Frag}{b:Bool}(hs:subIn K (.ref C) (.type "ValueError")=some b):PySem.W.kitOne K (.ref C) (.type "ValueError")=some b:=by unfold PySem.W.kitOne;rw[bS (show ¬ ((Value.ref C==Value.type "ValueError")=true) from fun h=>nomatch (qH.mp h))];unfold kitCls;dsimp only;rw[show PySem.W.kitMeta "ValueError"=true from by decide +kernel,bR rfl];exact hs
end
end DL
namespace L2
open PySem PySem.Spec PyProof.Rows
def XD(K:PySem.W.Frag)(a:Addr)(xs:List V):It :=
  ⟨fun i H=>jE K H a xs∧i<xs.length,fun i H x H'=>∃p u,x=.ref p∧H p=none∧H'=upd H p (.tup [.int i,u])∧xs[i]?=some u,fun i H=>jE K H a xs∧xs.length≤i⟩
theorem G4{K:PySem.W.Frag}{elts:List Expr}(a e it:Addr)(hei:e≠it)(xs:List V) :
    Turn P w K (.Tuple elts k pos) (XD K a xs) [e,it] e (fun i h=>(∃old,IsEnum h e it ((i:Nat):Int) old)∧h.IsListIter it a i) where
  mem:=by simp
  obj:=fun i h st c hc=>by
    obtain⟨⟨old,h1⟩,⟨o1,h4,_,d1⟩⟩:=st;simp only[gB,yN,or_false] at hc;rcases hc with rfl|rfl
    ·exact⟨_,h1,fun v z=>by cases z⟩
    ·exact⟨_,h4,fun v z=>by rw[d1] at z;cases z⟩
  keep:=fun i h h' st kk=>by obtain⟨⟨old,h1⟩,⟨o1,h4,r1⟩⟩:=st;exact⟨⟨old,kk e (by simp) _ h1⟩,⟨o1,kk it (by simp) _ h4,r1⟩⟩
  item:=by
    intro X hP hw hK hc i pins s σ H E I hf st hg;subst hP hw hK;obtain⟨qa,la⟩:=hg;obtain⟨vp,xn,p1,_⟩:=I.list qa;obtain⟨u,hu,ru⟩:=xn.get (x:=xs[i]) (i:=i) (by simp[la]);obtain⟨⟨old,h1⟩,h4⟩:=st;refine wpAny_pyNext_enum_item h1 h4 p1.isList (x:=u) (by simpa using hu) hei fun h' a1 a3 a5 a6 a7=>?_;refine⟨_,rfl,wpAny_letOwnedTupleGo_enum (s:={ s with heap:=h',toks:=s.toks+1 }) a1 fun Vr b1 sb=>?_⟩;have fz:=hf e (by simp);have f1:=hf it (by simp);have J6:H s.heap.objs.size=none:=I.cf.fresh (cN _);have hzl:e<s.heap.objs.size:=dR h1;have kept:∀c o,c≠e→c≠it→s.heap.get? c=some o→Vr.get? c=some o:=fun c o c1 c2 q=>(sb.2 c c1).trans (a7 c o c1 c2 q);have kT:∀c o,H c≠none→s.heap.get? c=some o→Vr.get? c=some o:=fun c o hn q =>
      kept c o (fun z=>hn (z▸fz.1)) (fun z=>hn (z▸f1.1)) q
    have hTp:Vr.get? s.heap.objs.size=some { cls:=.type "tuple",data:=.seq #[.int i s.toks,u] }:=(sb.2 _ (Nat.ne_of_gt hzl)).trans a5;refine⟨.ref s.heap.objs.size,upd H s.heap.objs.size (.tup [.int i,xs[i]]),?_,rfl,⟨_,xs[i],rfl,J6,rfl,by simp[la]⟩,?_,fun c hc=>?_⟩
    · show Inv X pins σ _ { s with heap:=Vr,gens:=s.gens,drawn:=s.drawn,toks:=s.toks+1 };refine I.step (g':=s.gens) (d':=s.drawn) (t':=s.toks+1) (ch:=[e,it]) (fun c hc=>?_) (fun c o _ _ hc e _=>?_) (fun c o _ _ hc e _=>⟨o.slots,?_⟩) (fun c o hc e n=>?_) (fun c o hc e=>⟨o,?_⟩) (fun c zs e=>?_) (fun c o zs e=>?_) (fun c ps e=>⟨#[],?_⟩) (fun m hm=>?_) (fun c o e=>?_) I.bare
      · simp only[gB,yN,or_false] at hc;have g:je X pins H c:=by
          rcases hc with rfl|rfl
          ·exact fz
          ·exact f1
        exact⟨g.2.2.2.1,g.2.1,g.2.2.2.2.1,g.2.2.2.2.2⟩
      all_goals try simp only[gB,yN,or_false,not_or] at hc
      ·exact kept c o hc.1 hc.2 e
      ·exact kept c o hc.1 hc.2 e
      ·rw[ay (iP (dR e))];exact n
      ·exact kept c o hc.1 hc.2 e
      ·rw[ay (bp e J6)];exact e
      ·rw[ay (bp e J6)];exact e
      ·rw[ay (bp e J6),e];simp
      ·obtain⟨o,es,ep,ho,r⟩:=hm;exact⟨o,es,ep,kept _ o (Ne.symm fz.2.1) (Ne.symm f1.2.1) ho,r⟩
      · by_cases QC:c=s.heap.objs.size
        ·subst QC;rw[aI] at e;cases e;exact⟨by show 2≤sizeLine;decide,[.int i s.toks,u],.cons ⟨_,rfl⟩ (.cons ru .nil),⟨_,hTp,rfl,_,rfl⟩⟩
        · rw[ay QC] at e;refine(I.cf c o e).mF (fun d q hd z'=>kT d q ?_ z') (fun d q=>by rw[ay (bp q J6)];exact q) fun d zs q=>by rw[ay (bp q J6)];exact q
          rcases hd with rfl|hd
          ·rw[e];exact fun q=>nomatch q
          ·rw[hd];exact fun q=>nomatch q
    · refine⟨⟨u,?_⟩,?_⟩
      · have:(((i+1:Nat):Nat):Int)=(i:Int)+1:=by push_cast;rfl
        rw[this];exact b1
      ·obtain⟨o,q,r⟩:=a3;exact⟨o,(sb.2 _ (Ne.symm hei)).trans q,r⟩
    · have hn:=(hf c hc).1;obtain⟨o,q⟩:∃o,s.heap.get? c=some o:=by
        simp only[gB,yN,or_false] at hc;rcases hc with rfl|rfl
        ·exact⟨_,h1⟩
        ·obtain⟨o,q,_⟩:=h4;exact⟨o,q⟩
      rw[ay (iP (dR q))];exact hn
  done:=by
    intro X hP hw hK hc i pins s σ H E I hf st hg;subst hP hw hK;obtain⟨qa,la⟩:=hg;obtain⟨vp,xn,p1,_⟩:=I.list qa;have l1:=xn.length;obtain⟨⟨old,h1⟩,h4⟩:=st;have f1:=hf it (by simp);refine wpAny_pyNext_enum_end (I.ok.hd hc) h1 h4 p1.isList (by simp;omega) fun h' kk=>⟨rfl,?_⟩
    refine I.step (g':=s.gens) (d':=s.drawn) (t':=s.toks) (ch:=[it]) (fun c hc=>?_) (fun c o _ _ hc e _=>?_) (fun c o _ _ hc e _=>⟨o.slots,?_⟩) (fun c o hc e n=>n) (fun c o hc e=>⟨o,?_⟩) (fun c zs e=>e) (fun c o zs e=>e) (fun c ps e=>⟨#[],by rw[e];simp⟩) (fun m hm=>?_) (fun c o e=>?_) I.bare
    ·simp only[gB,yN,or_false] at hc;subst hc;exact⟨f1.2.2.2.1,f1.2.1,f1.2.2.2.2.1,f1.2.2.2.2.2⟩
    all_goals try simp only[gB,yN,or_false,not_or] at hc
    ·exact kk c o hc e
    ·exact kk c o hc e
    ·exact kk c o hc e
    ·obtain⟨o,es,ep,ho,r⟩:=hm;exact⟨o,es,ep,kk _ o (Ne.symm f1.2.1) ho,r⟩
    · refine(I.cf c o e).mF (fun d q hd z'=>?_) (fun _ q=>q) fun _ _ q=>q;have hn:H d≠none:=by
        rcases hd with rfl|hd
        ·rw[e];exact fun q=>nomatch q
        ·rw[hd];exact fun q=>nomatch q
      exact kk d q (fun q=>hn (q▸f1.1)) z'
  self:=fun _ _ _ _ _ st h=>let ⟨⟨_,z⟩,_⟩:=st;wpAny_pyIter_enum z h
section
variable {X:Cx}
def TK(K:PySem.W.Frag)(ta:TA):TI:=fun σ H R=>ta σ H fun vs H1=>∃a xs,vs=[.ref a]∧jE K H1 a xs∧R (XD K a xs) H1
theorem MY{a:Expr}{elts:List Expr}{HY:Pos}{ta:TA}{p:Pos}(hg:Gl X "enumerate")(hm:X.mg "enumerate"=none)(ha:PA X [a] ta)(hs:starEach [a] X.env=(false,eval a X.env)::starEach [] X.env:=by rfl)(jz:(backTo pos (starEach [] X.env)).any (·.1)=false:=by rfl):PI X (.Tuple elts k HY) (.Call (.Name "enumerate" p) [a] [] pos) (TK X.K ta):=by
  intro pins s σ H R I h;refine Call_ (p6 I hg hm (by decide +kernel:bootBuiltins "enumerate"=some (.type "enumerate")) (PyProof.Rows.callWith_type1 (fW (ha pos pins s σ H _ I h) fun us s1 ⟨vs,H1,I1,r1,q1⟩=>?_) hs jz));obtain⟨a,xs,e,qa,q⟩:=q1;subst e;obtain⟨u,rfl,ru⟩:=vals1 r1;cases ru;obtain⟨vp,xn,p1,_⟩:=I1.list qa;refine call_enumerate_list p1.isList fun h' he hi hsz kk=>?_;refine wpAny_pyIter_enum (s:={ s1 with heap:=h' }) he ?_;have I2:Inv X pins σ H1 { s1 with heap:=h' }:=I1.kept (t':=s1.toks) kk;refine⟨_,[_,_],_,_,H1,rfl,I2,G4 a (s1.heap.objs.size+1) s1.heap.objs.size (Nat.succ_ne_self _) xs,⟨⟨_,he⟩,hi⟩,fun c hc=>?_,q⟩;have NW:s1.heap.objs.size≤c:=by simp only[gB,yN,or_false] at hc;rcases hc with rfl|rfl<;>first|exact cN _|exact Nat.le_add_right _ _
  exact I1.yV NW (I1.cf.fresh NW)
end
end L2
namespace DL
open PySem PySem.Spec L2
open PyProof.Rows hiding St pairAt
def pU:Nat→eY→eY
  |_,[]=>[]
  |n,d::ds=>.tup [.int n,d]::pU (n+1) ds
theorem yw:∀{ds:eY} {n i:Nat} {d:D},(pU n ds)[i]?=some d→∃x,ds[i]?=some x∧d=.tup [.int ((n+i:Nat):Int),x]
  |[],n,i,d,h=>by cases i<;>cases h
  |x::xs,n,0,d,h=>by cases h;exact⟨x,rfl,rfl⟩
  |x::xs,n,i+1,d,h=>by obtain⟨u,h1,h2⟩:=yw (ds:=xs) (n:=n+1) (i:=i) (by simpa[pU] using h);exact⟨u,by simpa using h1,by rw[h2,Nat.add_right_comm n 1 i,Nat.add_assoc]⟩
theorem oV:∀(ds:eY) (n:Nat),(pU n ds).length=ds.length
  |[],n=>rfl
  |x::xs,n=>by simp[pU,oV xs (n+1)]
section
variable {X:Cx} {z:Zc} {e a:Expr} {f fa:EF} {pos p:Pos} {K:PySem.W.Frag} {F:Hp}
theorem G5{a:Addr}{vs:List V}(ha:jE K F a vs)(hd:cc K F ds vs)(hl:ds.length≤sizeLine):Walk K z F (XD K a vs) true (pU 0 ds) where
  go:=fun F' H' s g i hi=>by rw[oV] at hi;have l1:=bh hd;exact⟨(s.trans g.base.sub).seq ha,by omega⟩
  Hw:=fun F' H' s g i d x Gz e y=>by obtain⟨q,u,rfl,hq,rfl,h1⟩:=y;obtain⟨x1,e1,rfl⟩:=yw e;obtain⟨d1,f1,f2⟩:=lX hd h1;rw[e1] at f1;cases f1;have g2:=bu.put g.base hq (.tup [.int i,u]) (show([.int i,u]:List V).length≤sizeLine by rw[mD];simp);refine⟨_,g2,aR.mpr ⟨q,_,rfl,aI,aE.mpr ⟨_,_,rfl,aO.mpr ?_,vy (bT (s.trans g2.g9) _ _ f2)⟩⟩⟩;rw[Nat.zero_add]
  stop:=fun F' H' s g=>by have l1:=bh hd;refine⟨(s.trans g.base.sub).seq ha,?_⟩;rw[oV];omega
  len:=by rw[oV];omega
def BD(f:EF):LF:=fun η=>(f η).bind fun x=>match x with|.lst ds=>some (pU 0 ds)|_=>none
theorem MZ{elts:List Expr}{HY:Pos}(hg:Gl X "enumerate")(hm:X.mg "enumerate"=none)(ha:DE X z a fa)(hs:starEach [a] X.env=(false,eval a X.env)::starEach [] X.env:=by rfl)(jz:(backTo pos (starEach [] X.env)).any (·.1)=false:=by rfl):DI X z (.Tuple elts k HY) (.Call (.Name "enumerate" p) [a] [] pos) true (BD fa):=PI.weak (MY hg hm (cF ha gC hs) hs jz) fun σ H R ⟨η,F,ds,r,e,k⟩=>by
  unfold BD at e;obtain⟨x,h1,e⟩:=eS.mp e;cases x with
  |lst p8=>cases e;refine⟨η,F,_,r,h1,fun v1 H1 F1 g1 q1=>?_⟩;obtain⟨a1,vs,rfl,a2,a3⟩:=aU.mp q1;have a2':=g1.base.sub.seq a2;exact⟨a1,vs,rfl,a2',k _ _ F1 g1 (G5 a2 a3 (by rw[bh a3];exact qX g1.base a2'))⟩
  |_=>cases e
end
def BE(K:PySem.W.Frag)(ms:List Bool)(Fn:eY→fU):Sp:=fun vs H Q E=>∃F ds r,Base F H∧gF K F∧ix K F H ms ds vs∧Fn ds=some r∧MR K F H r Q E
theorem Kd{K:PySem.W.Frag}{base:Heap}{st:Stmt}{ps:g7}{g:SF}(Fu:nc K x qual st f fd)(S:bB N ps (ah st))(IZ:ms.length=ps.length)(hb:∀(fT:Value) (A:Around) (outer:List Env) (s:Shared) (H:Hp) (E:XK) (F₀:Hp),gF K F₀→eW k (A.deeper (envOfC qual (ah st) s.heap.objs.size f fT))→Gu (cX (jL P w) P w K mg base N qual (ah st) f fT A outer s H E) (zX F₀ H E) (bf st) g):dw P w K mg base (jL P w) (k+1) f fd ps (BE K ms (kQ N.length ms g)):=by
  obtain⟨oc,od,kV,doc,pm,an,fT,ct,HC,rfl,lk,ji⟩:=Fu.ex;refine Ee lk ji S (fun vs H Q E h=>?_) (fun A outer s H vs Q E hr h=>?_)
  ·obtain⟨F,ds,r,_,_,a,_⟩:=h;rw[←IZ,(gG a).1]
  · obtain⟨F,ds,r,b,tb,a,e,q⟩:=h;refine⟨_,hb fT A outer s H E F tb hr,?_⟩;have rl:Rel K (zX F H E) F H (L2.start N vs) (dA N.length ms ds):=kb b a;unfold kQ at e;cases o:g (dA N.length ms ds) with
    |none=>rw[o] at e;cases e
    |some o' =>
     rw[o] at e;refine⟨_,F,o',rl,o,?_⟩;cases o' with
     |rt r'=>cases e;cases r<;>exact q
     |nx η'=>cases e;exact fun σ' H' F' r' _=>q .non H' F' r'.mem (bO.mpr rfl)
     |bk _=>cases e
     |ct _=>cases e
section
variable {X:Cx} {z:Zc} {e e2 o:Expr} {es M0:List Expr} {fs fs2:LF} {fo:EF} {ms ms2:List Bool} {pos p apos:Pos} {m:Str}
theorem rM{fn:Addr}{ps:g7}(hz:gF X.K z.F₀)(C:gE X.prog X.w X.K X.mg X.base k fn ps (tE X.K ms Fn))(hr:eW k X.A)(hg:Gl X x)(hm:X.mg x=some (.ref fn))(ha:DM X z (e::es) ms fs)(lU:(x==("__debug__":Str))=false:=by decide)(he:starEach (e::es) X.env=(false,eval e X.env)::starEach es X.env:=by rfl)(jz:(backTo pos (starEach es X.env)).any (·.1)=false:=by rfl):DE X z (.Call (.Name x p) (e::es) [] pos) (aG Fn fs):=PE.weak (CM C hr hg hm ha lU he jz) fun σ H Q ⟨η,F,d,r,e,k⟩=>by
  unfold aG at e;obtain⟨ds,h1,h⟩:=eS.mp e;obtain⟨s,h2,h⟩:=eS.mp h;refine⟨η,F,ds,r,h1,fun vs H1 F1 g1 q1=>?_⟩;show tE X.K ms Fn (vs++[]) H1 Q E0;rw[uv];refine⟨F1,ds,s,g1.base,(hz.mono r.mem.g9).mono g1.g9,q1,h2,?_⟩;cases s with
  |sh d'=>cases h;exact fun v H' F' g2 q2=>k v H' F' (g1.trans g2) q2
  |ol p8=>cases h;intro p vs H' F' g2 hp hF hH hd;have hs:cq F' (upd F' p (.lst vs)):=fq hF _;exact k _ _ _ ((g1.trans g2).share g2.base hH (g1.ent.free hp)) (aU.mpr ⟨p,vs,rfl,jE.of aI,bG hs _ _ hd⟩)
  |pr p8 N2=>cases h;intro a p vs ws H' F' g2 hp hF hH hd ha hr;have hs:cq F' (upd F' p (.lst vs)):=fq hF _;exact k _ _ _ ((g1.trans g2).share g2.base hH (g1.ent.free hp)) (aR.mpr ⟨a,_,rfl,hs _ _ ha,aE.mpr ⟨_,_,rfl,aU.mpr ⟨p,vs,rfl,jE.of aI,bG hs _ _ hd⟩,bG hs _ _ hr⟩⟩)
  |_=>cases h
theorem yx{fn:Addr}{ps:g7}(hz:gF X.K z.F₀)(C:uE X.prog X.w X.K X.mg X.base k fn ps (BE X.K ms Fn))(hr:eW k X.A)(hg:Gl X x)(hm:X.mg x=some (.ref fn))(ha:DM X z (e::es) ms fs)(lU:(x==("__debug__":Str))=false:=by decide)(he:starEach (e::es) X.env=(false,eval e X.env)::starEach es X.env:=by rfl)(jz:(backTo pos (starEach es X.env)).any (·.1)=false:=by rfl):DO X z (.Call (.Name x p) (e::es) [] pos) (nX Fn fs):=PE.weak (MT C hr hg hm ha lU he jz) fun σ H Q ⟨η,F,d,r,e,k⟩=>by
  unfold nX at e;obtain⟨ds,h1,h⟩:=eS.mp e;obtain⟨s,h2,h⟩:=eS.mp h;refine⟨η,F,ds,r,h1,fun vs H1 F1 g1 q1=>?_⟩;show BE X.K ms Fn (vs++[]) H1 Q _;rw[uv];refine⟨F1,ds,s,g1.base,(hz.mono r.mem.g9).mono g1.g9,q1,h2,?_⟩;cases s with
  |ol p8=>cases h;exact fun p vs H' F' g2 hp hF hH hd=>k p vs H' F' (g1.trans g2) (g1.ent.free hp) hF hH hd
  |_=>cases h
def Fj(X:Cx)(m:Str)(ms:List Bool)(C:Addr)(Fn:eY→fU):Prop :=
  ∃f k ps,HX X.K C∧Meth X.K C m f∧uE X.prog X.w X.K X.mg X.base k f ps (MS X.K (true::ms) Fn)∧eW k X.A
def qm(X:Cx)(m:Str)(ms:List Bool)(tb:List (Addr×(eY→fU))):Prop:=∀C Fn,tb.lookup C=some Fn→Fj X m ms C Fn
theorem rN:qm X m ms []:=fun _ _ h=>nomatch h
theorem d7{tb:List (Addr×(eY→fU))}(h:Fj X m ms C Fn)(r:qm X m ms tb):qm X m ms ((C,Fn)::tb):=fun C' Xl q=>by
  rw[u3] at q;split at q
  ·rename_i hb;cases q;rw[qH.mp hb];exact h
  ·exact r C' Xl q
theorem Fl{ps:g7}{sp:Sp}{E:XK}{Kx:kX}{Q:VK}{vs:List V}(F:dw X.prog X.w X.K X.mg X.base (jL X.prog X.w) k f fd ps sp)(hr:eW k X.A)(hb:Binds X.K fd ps [])(I:Inv X pins σ H s)(r:Vals vs us)(h:sp vs H Q E)(hx:∀e s',jL X.prog X.w X.stack H s E e s'→Kx e s'):wpAny (model X.prog X.w) X.A (call (.ref f) us) (EP X pins σ Q) Kx s:=by
  have hl:(us++[]).length=ps.length:=by rw[uv,←r.length];exact F.len _ _ _ _ h
  have Ru:=hb s us I.qI hl;rw[uv] at Ru;refine wpAny_call (codeAny_mono (F.run X.A X.stack s H ⟨us,[]⟩ us vs Q E hr I.LJ Ru r h) fun r s' hq=>?_);cases r with
  |error e=>exact hx e s' hq
  |ok fl =>
   cases fl with
   |ret u=>exact I.after hq
   |next=>exact False.elim hq
   |brk=>exact False.elim hq
   |cont=>exact False.elim hq
theorem wd{Kx:kX}{E:XK}{tb:List (Addr×(eY→fU))}{Q:VK}(hT:qm X m ms tb)(ho:DE X z o fo)(ha:DM X z (e::es) ms fs)(FQ:starEach (e::es) X.env=(false,eval e X.env)::starEach es X.env)(jz:(backTo pos (starEach es X.env)).any (·.1)=false)(ht:eval (.Call (.Attribute o m apos) (e::es) [] pos) X.env=(do
      let ov ←eval o X.env
      standAt apos.atName
      let (f,first) ←holding [ov] (getMethod ov m pl)
      callWith pos f first (backTo pos (starEach (e::es) X.env)) (backToKw pos (keywordEach [] X.env))))(Rx:∀e s,X.xe e s→Kx e s)(hx:∀H1 s1 e s',Inv X pins σ H1 s1→jL X.prog X.w X.stack H1 s1 E e s'→Kx e s')(I:Inv X pins σ H s)(r:Rel X.K z F H σ η)(h1:fo η=some (.obj C))(h2:tb.lookup C=some Fn)(h3:fs η=some ds)(h4:Fn (.obj C::ds)=some sl)(k:∀H1 F1,bu F H F1 H1→MR X.K F1 H1 sl Q E):wpAny (model X.prog X.w) X.A (eval (.Call (.Attribute o m apos) (e::es) [] pos) X.env) (EP X pins σ Q) Kx s:=by
  obtain⟨f,n,ps,hc,hm,hC,hr⟩:=hT C Fn h2;obtain⟨fd,G,hb,kp⟩:=hC.ex;refine methodCall_KW (pl:=pl) (j4 (ho pins s σ H (fun v H1=>∃F1,bu F H F1 H1∧Den X.K F1 (.obj C) v) I ⟨η,F,.obj C,r,h1,fun v H1 F1 g1 q1=>⟨F1,g1,q1⟩⟩) (fun u s1 hh=>?_) Rx) ht;obtain⟨x,H1,I1,rx,F1,g1,q1⟩:=hh;obtain⟨a,dx,rfl,hF,_⟩:=eZ.mp q1;obtain rfl:u=Value.ref a:=rx;refine vg I1 (g1.base.sub _ _ hF) hc hm rfl ?_;refine callWith_K (first:=[.ref a]) (h₀:=X.base) I.ok.mod.Nx hm.kp (j4 (ha pos pins s1 σ H1 (fun vs H2=>∃F2,bu F1 H1 F2 H2∧ix X.K F2 H2 ms ds vs) I1 ⟨η,F1,ds,r.grow g1,h3,fun vs H2 F2 g2 q2=>⟨F2,g2,q2⟩⟩) (fun us s2 hh=>?_) Rx) FQ jz;obtain⟨vs,H2,I2,rv,F2,g2,q2⟩:=hh;refine⟨I2.qI,?_⟩;exact Fl (us:=.ref a::us) (vs:=.ref a::vs) (E:=E) G hr hb I2 (.cons rfl rv) ⟨F2,.obj C::ds,sl,g2.base,⟨bT g2.g9 _ _ q1,q2⟩,h4,k H2 F2 (g1.trans g2)⟩ fun e s' q=>hx H2 s2 e s' I2 q
def mX(tb:List (Addr×(eY→fU)))(fo:EF)(fs:LF):cD→fU:=fun η=>(fo η).bind fun d=>match d with
  |.obj C=>(tb.lookup C).bind fun Fn=>(fs η).bind fun ds=>Fn (.obj C::ds)
  |_=>none
theorem Ke{tb:List (Addr×(eY→fU))}(h:mX tb fo fs η=some sl):∃C Fn ds,fo η=some (.obj C)∧tb.lookup C=some Fn∧fs η=some ds∧Fn (.obj C::ds)=some sl:=by
  unfold mX at h;obtain⟨d,h1,h⟩:=eS.mp h;cases d with
  |obj C=>obtain⟨Fn,h2,h⟩:=eS.mp h;obtain⟨ds,h3,h⟩:=eS.mp h;exact⟨C,Fn,ds,h1,h2,h3,h⟩
  |_=>cases h
def tG(tb:List (Addr×(eY→fU)))(fo:EF)(fs:LF):EF:=fun η=>(mX tb fo fs η).bind fun r=>match r with
  |.sh d=>some d
  |_=>none
theorem BG{tb:List (Addr×(eY→fU))}(hT:qm X m ms tb)(ho:DE X z o fo)(ha:DM X z (e::es) ms fs)(FQ:starEach (e::es) X.env=(false,eval e X.env)::starEach es X.env:=by rfl)(jz:(backTo pos (starEach es X.env)).any (·.1)=false:=by rfl)(ht:eval (.Call (.Attribute o m apos) (e::es) [] pos) X.env=(do
      let ov ←eval o X.env
      standAt apos.atName
      let (f,first) ←holding [ov] (getMethod ov m pl)
      callWith pos f first (backTo pos (starEach (e::es) X.env)) (backToKw pos (keywordEach [] X.env))):=by rfl):DE X z (.Call (.Attribute o m apos) (e::es) [] pos) (tG tb fo fs):=by
  intro pins s σ H Q I ⟨η,F,d,r,e0,k⟩;unfold tG at e0;obtain⟨sl,h,e0⟩:=eS.mp e0;obtain⟨C,Fn,ds,h1,h2,h3,h4⟩:=Ke h;refine wd (pl:=pl) (E:=fun _ _ _=>False) hT ho ha FQ jz ht (fun _ _ q=>q) (fun H1 s1 e s' _ q=>by obtain⟨_,_,_,_,_,_,_,_,_,q⟩:=q;exact q.elim) I r h1 h2 h3 h4 fun H1 F1 g1=>?_;cases sl with
  |sh d'=>cases e0;exact fun v H' F' g2 q2=>k v H' F' (g1.trans g2) q2
  |_=>cases e0
end
def zR(tb:List (Addr×(eY→fU)))(fo:EF)(fs:LF):SF:=fun η=>(mX tb fo fs η).bind fun r=>match r with
  |.pn B d=>some (.rt (.pn B d))
  |.ol ds=>(kZ ds).bind fun ns=>if ns.length<64 then some (.rt (.sh (.tup ((iX ns).map D.int)))) else none
  |_=>none
section
variable {P:Program} {w:World} {K:PySem.W.Frag} {mg:Str→fV} {base:Heap} {N:g7} {qual:Str} {scope:Scope} {f:Addr} {cd:Value} {A:Around} {outer:List Env} {s₀:Shared} {H₀:Hp} {E:XK} {F₀:Hp}
theorem Kf{o:Expr}{es:List Expr}{fs:LF}{fo:EF}{p apos Kg:Pos}{m:Str}{tb:List (Addr×(eY→fU))}(hT:qm (cX (jL P w) P w K mg base N qual scope f cd A outer s₀ H₀ E) m ms tb)(ho:DE (cX (jL P w) P w K mg base N qual scope f cd A outer s₀ H₀ E) (zX F₀ H₀ E) o fo)(ha:DM (cX (jL P w) P w K mg base N qual scope f cd A outer s₀ H₀ E) (zX F₀ H₀ E) (e::es) ms fs)(hg1:Gl (cX (jL P w) P w K mg base N qual scope f cd A outer s₀ H₀ E) "tuple")(hm1:mg "tuple"=none)(zC:Gl (cX (jL P w) P w K mg base N qual scope f cd A outer s₀ H₀ E) "sorted")(xJ:mg "sorted"=none)(FQ:starEach (e::es) (cX (jL P w) P w K mg base N qual scope f cd A outer s₀ H₀ E).env=(false,eval e (cX (jL P w) P w K mg base N qual scope f cd A outer s₀ H₀ E).env)::starEach es (cX (jL P w) P w K mg base N qual scope f cd A outer s₀ H₀ E).env:=by rfl)(jz:(backTo pos (starEach es (cX (jL P w) P w K mg base N qual scope f cd A outer s₀ H₀ E).env)).any (·.1)=false:=by rfl)(ht:eval (.Call (.Attribute o m apos) (e::es) [] pos) (cX (jL P w) P w K mg base N qual scope f cd A outer s₀ H₀ E).env=(do
      let ov ←eval o (cX (jL P w) P w K mg base N qual scope f cd A outer s₀ H₀ E).env
      standAt apos.atName
      let (g,first) ←holding [ov] (getMethod ov m pl)
      callWith pos g first (backTo pos (starEach (e::es) (cX (jL P w) P w K mg base N qual scope f cd A outer s₀ H₀ E).env)) (backToKw pos (keywordEach [] (cX (jL P w) P w K mg base N qual scope f cd A outer s₀ H₀ E).env))):=by rfl)(Vs:starEach [.Call (.Attribute o m apos) (e::es) [] pos] (cX (jL P w) P w K mg base N qual scope f cd A outer s₀ H₀ E).env=(false,eval (.Call (.Attribute o m apos) (e::es) [] pos) (cX (jL P w) P w K mg base N qual scope f cd A outer s₀ H₀ E).env)::starEach [] (cX (jL P w) P w K mg base N qual scope f cd A outer s₀ H₀ E).env:=by rfl)(yW:starEach [.Call (.Name "sorted" p2) [.Call (.Attribute o m apos) (e::es) [] pos] [] Kg] (cX (jL P w) P w K mg base N qual scope f cd A outer s₀ H₀ E).env=(false,eval (.Call (.Name "sorted" p2) [.Call (.Attribute o m apos) (e::es) [] pos] [] Kg) (cX (jL P w) P w K mg base N qual scope f cd A outer s₀ H₀ E).env)::starEach [] (cX (jL P w) P w K mg base N qual scope f cd A outer s₀ H₀ E).env:=by rfl){XE:Pos}:DS (cX (jL P w) P w K mg base N qual scope f cd A outer s₀ H₀ E) (zX F₀ H₀ E) (.Return (some (.Call (.Name "tuple" p) [.Call (.Name "sorted" p2) [.Call (.Attribute o m apos) (e::es) [] pos] [] Kg] [] eU)) XE) (zR tb fo fs):=by
  have hPE:PE (cX (jL P w) P w K mg base N qual scope f cd A outer s₀ H₀ E) (.Call (.Attribute o m apos) (e::es) [] pos) (fun σ H Q=>∃η F sl C Fn ds,Rel K (zX F₀ H₀ E) F H σ η∧fo η=some (.obj C)∧tb.lookup C=some Fn∧fs η=some ds∧Fn (.obj C::ds)=some sl∧∀H1 F1,bu F H F1 H1→MR K F1 H1 sl Q E):=by intro pins s σ H Q I ⟨η,F,sl,C,Fn,ds,r,h1,h2,h3,h4,k⟩;exact wd (pl:=pl) (E:=E) hT ho ha FQ jz ht (fun _ _ q=>q) (fun H1 s1 e s' I1 q=>J7 (fun _ _ z=>z) pins σ H1 s1 e s' I1 q) I r h1 h2 h3 h4 k
  refine PS.weak (yT (sM pQ hg1 hm1 vo (cF (iQ rD zC xJ oN (cF hPE gC Vs) (by decide) (by decide) Vs rfl) gC yW) (by decide) (by decide) yW rfl)) fun D σ H ⟨η,F,o',r,e0,k⟩=>?_;unfold zR at e0;obtain⟨sl,h,e0⟩:=eS.mp e0;obtain⟨C,Fn,ds,h1,h2,h3,h4⟩:=Ke h;refine⟨η,F,sl,C,Fn,ds,r,h1,h2,h3,h4,fun H1 F1 g1=>?_⟩;cases sl with
  |pn B d=>cases e0;exact fun H' F' g2=>k H' F' (r.mem.trans (g1.trans g2))
  |ol Ln =>
   obtain⟨ns,h5,e0⟩:=eS.mp e0;by_cases hl:ns.length<64
   · rw[bR hl] at e0;cases e0;intro p vs H' F' g2 hp hF hH hd;rw[kC h5] at hd;rw[iu hd] at hH;refine⟨p,ns,rfl,jE.of hH,hl,fun l EJ=>⟨l,_,rfl,.inl ⟨jE.of aI,fun l2 Xb=>?_⟩⟩⟩;have lp:(iX ns).length=ns.length:=(kF ns).length_eq;have hz:((iX ns).map V.int).length≤sizeLine:=by rw[dX,lp,mD];omega
     have g3:=bu.own g2.base EJ (.lst ((iX ns).map V.int)) hz rfl;have g4:=bu.put g3.base Xb (.tup ((iX ns).map V.int)) hz;exact k _ _ _ (r.mem.trans (((g1.trans g2).trans g3).trans g4)) (aR.mpr ⟨l2,_,rfl,aI,jl _⟩)
   ·rw[bS hl] at e0;cases e0
  |_=>cases e0
end
def BH(ok:List Addr)(i j:Nat)(t:TF)(F1:eY→fU)(QI:LF)(tb:List (Addr×(eY→fU)))(fo:EF)(fs:LF):SF:=fun η=>(t η).bind fun b=>((if b=true then(QI η).bind F1 else mX tb fo fs η):fU).bind fun r=>match r with
  |.pn C _=>if ok.contains C=true then some (.nx (((η.set i (some (.sh (.exc C)))).set j (some (.sh (.exc C)))).set i none)) else none
  |_=>none
section
variable {X:Cx} {z:Zc} {e e2 o ct:Expr} {es M0:List Expr} {fs QI:LF} {fo:EF} {t:TF} {ms XF:List Bool} {pos p apos:Pos} {m:Str}
theorem M3{y B n c:Str}{Bc fn:Addr}{ps:g7}{F1:eY→fU}{k1:Nat}{ok:List Addr}{tb:List (Addr×(eY→fU))}{py np pc pn QH Oh Dn XG p1:Pos}(i j:Nat)(Rx:∀e s,X.xe e s→False)(hz:gF X.K z.F₀)(hct:DT X z ct t)(C:uE X.prog X.w X.K X.mg X.base k1 fn ps (BE X.K XF F1))(hr:eW k1 X.A)(hgf:Gl X y)(hmf:X.mg y=some (.ref fn))(ha1:DM X z (e::es) XF QI)(hT:qm X m ms tb)(ho:DE X z o fo)(ha:DM X z (e2::M0) ms fs)(Rw:X.N.Nodup)(hg:Gl X B)(hm:X.mg B=some (.ref Bc))(hB:excIn X.K Bc Fg "ValueError.__new__"=true)(cf:Fi X.K Bc ok)(Ka:X.stack=X.env::X.outer:=by rfl)(hf:X.env.frame=some X.env.locals:=by rfl)(hi:X.N[i]?=some n:=by rfl)(hn:X.env.kindOf n=some .local:=by rfl)(Tx:Loc X.env.scope n:=by first|exact Or.inl rfl|exact Or.inr rfl)(Rv:X.env.scope.names.lookup n=some .local:=by rfl)(hv:Am X.env.scope n:=by first|exact Or.inl rfl|exact Or.inr (Or.inl rfl)|exact Or.inr (Or.inr rfl))(hj:X.N[j]?=some c:=by rfl)(Tz:Loc X.env.scope c:=by first|exact Or.inl rfl|exact Or.inr rfl)(Lf:X.fn c=true∨X.env.scope.names.lookup c=some .local:=by first|exact .inl rfl|exact .inr rfl|assumption)(vq:i≠j:=by decide)(TB:(B==("__debug__":Str))=false:=by decide)(Vq:(n==("__debug__":Str))=false:=by decide)(hd2:(n==("__classdict__":Str))=false:=by decide)(hd3:(y==("__debug__":Str))=false:=by decide)(hs:swapsWith (.Name n pn) (some (.Name c pc)) Oh.line X.env=pure false:=by rfl)(Vs:swapsWith (.Call (.Name y py) (e::es) [] eU) none p1.line X.env=pure false:=by rfl)(yW:swapsWith (.Call (.Attribute o m apos) (e2::M0) [] Dn) none p2.line X.env=pure false:=by rfl)(he:starEach (e::es) X.env=(false,eval e X.env)::starEach es X.env:=by rfl)(jz:(backTo eU (starEach es X.env)).any (·.1)=false:=by rfl)(he2:starEach (e2::M0) X.env=(false,eval e2 X.env)::starEach M0 X.env:=by rfl)(XH:(backTo Dn (starEach M0 X.env)).any (·.1)=false:=by rfl)(ht:eval (.Call (.Attribute o m apos) (e2::M0) [] Dn) X.env=(do
      let ov ←eval o X.env
      standAt apos.atName
      let (f,first) ←holding [ov] (getMethod ov m pl)
      callWith Dn f first (backTo Dn (starEach (e2::M0) X.env)) (backToKw Dn (keywordEach [] X.env))):=by rfl):DS X z (.Try [.If ct [.Expr (.Call (.Name y py) (e::es) [] eU) p1] [.Expr (.Call (.Attribute o m apos) (e2::M0) [] Dn) p2] XG] [.ExceptHandler (some (.Name B np)) (some n) [.Assign [.Name c pc] (.Name n pn) Oh] QH] [] [] pos) (BH ok i j t F1 QI tb fo fs):=by
  obtain⟨fd,G,b,kp⟩:=C.ex;intro pins s σ H D I ⟨η,F,o',r,e0,k⟩;unfold BH at e0;obtain⟨bb,h1,e0⟩:=eS.mp e0;obtain⟨sl,h2,e0⟩:=eS.mp e0;have key:∃Cl d,sl=.pn Cl d∧ok.contains Cl=true∧o'=.nx (((η.set i (some (.sh (.exc Cl)))).set j (some (.sh (.exc Cl)))).set i none):=by
    cases sl with
    |pn Cl d =>
     dsimp only at e0;by_cases hC:ok.contains Cl=true
     ·rw[bR hC] at e0;cases e0;exact⟨Cl,d,rfl,hC,rfl⟩
     ·rw[bS hC] at e0;cases e0
    |_=>cases e0
  obtain⟨Cl,d,rfl,hC,rfl⟩:=key;obtain⟨o1,o2⟩:=cf Cl hC;have hE:∀H2 F2,bu F H F2 H2→∃C,Value.ref Cl=.ref C∧excIn X.K C Fg "ValueError.__new__"=true∧lD X.K C Bc=true∧∀a,H2 a=none→D.nx (((σ.set i (some (.ref a))).set j (some (.ref a))).set i none) (upd H2 a (.ext (lW a C))):=fun H' F' g2=>by refine⟨Cl,rfl,o1,o2,fun a ha=>?_⟩;have g3:bu F' H' (upd F' a (.ext (lW a Cl))) (upd H' a (.ext (lW a Cl))):=bu.share (bu.own g2.base ha (.ext (lW a Cl)) True.intro rfl).base (bu.own g2.base ha (.ext (lW a Cl)) True.intro rfl) aI ha;have hD:iw X.K z (upd F' a (.ext (lW a Cl))) (upd H' a (.ext (lW a Cl))) (.ref a) (.sh (.exc Cl)):=(gU (K:=X.K)).mpr ⟨a,rfl,aI⟩;exact k _ _ _ ((((r.grow (g2.trans g3)).set i rfl hD).set j rfl hD).unset i) (g2.trans g3).g9
  refine wpAny_Try_except (wpAny_execs_cons ?_);refine wpAny_If (j4 (hct pins s σ H (fun b' H1=>b'=bb∧∃F1,bu F H F1 H1) I ⟨η,F,bb,r,h1,fun H' F' g=>⟨rfl,F',g⟩⟩) (fun b' s1 hh=>?_) (fun _ _ q=>(Rx _ _ q).elim));obtain⟨H1,I1,rfl,F1',g1⟩:=hh;cases b' with
  |true=>rw[bR rfl] at h2;obtain⟨ds,h3,h4⟩:=eS.mp h2;refine wpAny_execs_cons (wpAny_Expr_any (j4 (Q:=EP X pins σ fun _ _=>False) ?_ (fun v s2 hh=>by obtain⟨_,_,_,_,q⟩:=hh;exact q.elim) (fun _ _ q=>q)) I.quiet Vs);refine wpAny_Call_Name_kw (qJ I1 hgf hmf ?_ hd3);refine callWith_K (h₀:=X.base) I.ok.mod.Nx kp (j4 (ha1 eU pins s1 σ H1 (fun vs H2=>∃F2,bu F1' H1 F2 H2∧ix X.K F2 H2 XF ds vs) I1 ⟨η,F1',ds,r.grow g1,h3,fun vs H2 F2 g2 q2=>⟨F2,g2,q2⟩⟩) (fun us s2 hh=>?_) (fun _ _ q=>(Rx _ _ q).elim)) he jz;obtain⟨vs,H2,I2,rv,F2,g2,q2⟩:=hh;refine⟨I2.qI,?_⟩;refine Fl (E:=fun cl _ H2=>∃C,cl=.ref C∧excIn X.K C Fg "ValueError.__new__"=true∧lD X.K C Bc=true∧∀a,H2 a=none→D.nx (((σ.set i (some (.ref a))).set j (some (.ref a))).set i none) (upd H2 a (.ext (lW a C)))) G hr b I2 rv ⟨F2,ds,_,g2.base,((hz.mono r.mem.g9).mono g1.g9).mono g2.g9,q2,h4,fun H' F' g3=>hE H' F' ((g1.trans g2).trans g3)⟩ fun e' s' hq=>?_;exact Bx I2 hq Ka hf Rw hg hm hB hi hn Tx Rv hj Tz Lf vq (fun C H' ⟨C',e1,e2⟩=>by cases e1;exact e2) hv TB Vq hd2 hs
  |false=>rw[bS (by decide)] at h2;obtain⟨Co,Fn,ds,h3,h4,h5,h6⟩:=Ke h2;refine wpAny_execs_cons (wpAny_Expr_any (j4 (Q:=EP X pins σ fun _ _=>False) ?_ (fun v s2 hh=>by obtain⟨_,_,_,_,q⟩:=hh;exact q.elim) (fun _ _ q=>q)) I.quiet yW);refine wd (pl:=pl) (E:=fun cl _ H2=>∃C,cl=.ref C∧excIn X.K C Fg "ValueError.__new__"=true∧lD X.K C Bc=true∧∀a,H2 a=none→D.nx (((σ.set i (some (.ref a))).set j (some (.ref a))).set i none) (upd H2 a (.ext (lW a C)))) hT ho ha he2 XH ht (fun _ _ q=>(Rx _ _ q).elim) (fun H2 s2 e' s' I2 hq=>?_) I1 (r.grow g1) h3 h4 h5 h6 fun H2 F2 g2 H' F' g3=>hE H' F' ((g1.trans g2).trans g3);exact Bx I2 hq Ka hf Rw hg hm hB hi hn Tx Rv hj Tz Lf vq (fun C H' ⟨C',e1,e2⟩=>by cases e1;exact e2) hv TB Vq hd2 hs
end
end DL
namespace Vt
open PySem L2 DL NS
def top(i:Nat):Stmt:=PySem.Challenge.pw_fairbench_k33_benches_of_ways.main.body.getD i (.Pass ⟨0,0,0,0⟩)
abbrev jq:Stmt:=top 11
abbrev kc:Stmt:=top 12
abbrev ml:Stmt:=top 13
abbrev cP:Stmt:=top 14
abbrev ke:Stmt:=top 17
abbrev gg:Stmt:=top 18
abbrev dD:Stmt:=top 24
abbrev cQ:Stmt:=top 25
abbrev gW:Stmt:=top 26
abbrev gX:Stmt:=top 27
abbrev gh:Stmt:=top 28
abbrev gi:Stmt:=top 29
abbrev d8:Stmt:=top 30
abbrev dE:Stmt:=top 31
abbrev dF:Stmt:=top 32
abbrev kf:Stmt:=top 34
abbrev oW:Stmt:=top 35
abbrev yy:Stmt:=top 36
abbrev oX:Stmt:=top 37
abbrev s_same:Stmt:=top 38
abbrev oY:Stmt:=top 39
abbrev yz:Stmt:=top 40
abbrev kg:Stmt:=top 41
abbrev j6:Stmt:=top 42
abbrev gj:Stmt:=inClass (top 20) 2
abbrev bJ:Stmt:=inClass (top 21) 0
abbrev fC:Stmt:=inClass (top 20) 1
abbrev d9:Stmt:=inClass (top 22) 0
abbrev ef:Stmt:=inClass (top 23) 0
structure nr where
  iy:Addr
  mq:Addr
  oh:Addr
  dI:Addr
  kh:Addr
  ib:Addr
  cy:Addr
  cw:Addr
  cV:Addr
  fR:Addr
  ic:Addr
  ie:Addr
  fY:Addr
  fE:Addr
  cR:Addr
  iM:Addr
  mS:Addr
  BI:Addr
  rO:Addr
  jr:Addr
  rP:Addr
  wg:Addr
  ki:Addr
  Fm:Addr
  gn:Addr
  gL:Addr
  gN:Addr
  fZ:Addr
  gd:Addr
  fO:Addr
  lh:Addr
  bj:Addr
  aP:Addr
  aD:Addr
  cI:Addr
  fF:Addr
  gO:Addr
  gP:Addr
  ag:Addr
  fG:Addr
  gQ:Addr
  dJ:Addr
  iY:Addr
  Lq:Addr
  M4:Addr
structure rQ (a:nr):Prop where
  zU:a.bj≠a.aP
  zV:a.bj≠a.aD
  xN:a.aP≠a.aD
def jG:bD:=[0,60,90,110,125,137,147]
structure Txt (K:PySem.W.Frag) (mg:Str→fV) (a:nr):Prop where
  iy:mg "lowest"=some (.ref a.iy)
  mq:mg "added"=some (.ref a.mq)
  oh:mg "less"=some (.ref a.oh)
  dI:mg "common_divisor"=some (.ref a.dI)
  kh:mg "worth"=some (.ref a.kh)
  ib:mg "in_common"=some (.ref a.ib)
  cy:mg "loads_behind"=some (.ref a.cy)
  cw:mg "ballots_naming"=some (.ref a.cw)
  cV:mg "names_of"=some (.ref a.cV)
  fR:mg "unseated"=some (.ref a.fR)
  ic:mg "next_turn"=some (.ref a.ic)
  ie:mg "next_load"=some (.ref a.ie)
  fY:mg "comes_ahead"=some (.ref a.fY)
  fE:mg "load_of_name"=some (.ref a.fE)
  cR:mg "load_of_heap"=some (.ref a.cR)
  iM:mg "_law_cell_at"=some (.ref a.iM)
  mS:mg "_law_mixed"=some (.ref a.mS)
  BI:mg "_law_set"=some (.ref a.BI)
  rO:mg "_law_heaps"=some (.ref a.rO)
  jr:mg "_law_same"=some (.ref a.jr)
  rP:mg "_law_kinds"=some (.ref a.rP)
  wg:mg "_law_way"=some (.ref a.wg)
  ki:mg "_law_refused"=some (.ref a.ki)
  Fm:mg "law"=some (.ref a.Fm)
  lh:mg "Way"=some (.ref a.lh)
  bj:mg "Most"=some (.ref a.bj)
  aP:mg "Turns"=some (.ref a.aP)
  aD:mg "Loads"=some (.ref a.aD)
  cI:mg "BenchError"=some (.ref a.cI)
  fF:mg "NoCount"=some (.ref a.fF)
  gO:mg "NoName"=some (.ref a.gO)
  gP:mg "NoHeap"=some (.ref a.gP)
  ag:mg "NoPlaces"=some (.ref a.ag)
  fG:mg "NoLists"=some (.ref a.fG)
  gQ:mg "NoRoll"=some (.ref a.gQ)
  dJ:mg "NoBallot"=some (.ref a.dJ)
  iY:mg "NoWay"=some (.ref a.iY)
  iZ:excIn K a.cI Fg "ValueError.__new__"=true
  iz:excIn K a.ag Fg "ValueError.__new__"=true
  eJ:PySem.W.yu K a.ag
  cJ:lD K a.ag a.cI=true
  dq:PySem.W.kitOne K (.ref a.ag) (.ref a.fF)=some false
  dM:PySem.W.kitOne K (.ref a.ag) (.ref a.gO)=some false
  dN:PySem.W.kitOne K (.ref a.ag) (.ref a.gP)=some false
  om:PySem.W.kitOne K (.ref a.ag) (.ref a.ag)=some true
  du:PySem.W.kitOne K (.ref a.ag) (.ref a.fG)=some false
  dO:PySem.W.kitOne K (.ref a.ag) (.ref a.gQ)=some false
  cY:PySem.W.kitOne K (.ref a.ag) (.ref a.dJ)=some false
  eK:PySem.W.kitOne K (.ref a.ag) (.ref a.iY)=some false
  cK:PySem.W.kitOne K (.ref a.ag) (.type "ValueError")=some true
  lq:HX K a.bj
  rR:Tg K a.bj
  M5:Bu K a.bj
  lE:Meth K a.bj "bench" a.gn
  jD:Meth K a.bj "order" a.gL
  wj:Meth K a.bj "seated" a.gN
  jI:PySem.W.kitOne K (.ref a.bj) (.ref a.lh)=some true
  jJ:HX K a.aP
  oo:Tg K a.aP
  Kh:Bu K a.aP
  kH:Meth K a.aP "bench" a.gn
  i3:Meth K a.aP "order" a.fZ
  uF:Meth K a.aP "seated" a.gN
  i5:PySem.W.kitOne K (.ref a.aP) (.ref a.lh)=some true
  jK:HX K a.aD
  kI:Tg K a.aD
  Ki:Bu K a.aD
  kJ:Meth K a.aD "bench" a.gn
  i6:Meth K a.aD "order" a.gd
  uG:Meth K a.aD "seated" a.gN
  i7:PySem.W.kitOne K (.ref a.aD) (.ref a.lh)=some true
  fO:mg "SIXTIETHS"=some (.ref a.fO)
  BJ:∀H,j9 K H a.fO (jG.map V.int)
  zW:mg "ValueError"=none
  Dp:mg "bool"=none
  BK:mg "enumerate"=none
  Oi:mg "int"=none
  aY:mg "isinstance"=none
  pV:mg "len"=none
  tI:mg "list"=none
  oZ:mg "range"=none
  rS:mg "sorted"=none
  Oj:mg "str"=none
  Ol:mg "sum"=none
  mU:mg "tuple"=none
  XI:PySem.W.codeHdIn K a.Lq a.M4=true
  XJ:jO K=some (a.Lq,a.M4)
section
variable {P:Program} {w:World} {K:PySem.W.Frag} {mg:Str→fV} {base:Heap} {f:Addr} {fd:FuncData} {a:nr}
theorem TL:(["named","many","names"]:g7).Nodup:=by decide +kernel
theorem XM:(["name","two"]:g7).Nodup:=by decide +kernel
theorem TN:(["names","many","rows"]:g7).Nodup:=by decide +kernel
theorem TQ:(["names","many","name"]:g7).Nodup:=by decide +kernel
theorem XO:(["row"]:g7).Nodup:=by decide +kernel
theorem XQ:(["name","rows"]:g7).Nodup:=by decide +kernel
theorem XR:(["_law_name","_law_bits"]:g7).Nodup:=by decide +kernel
theorem XS:(["_law_name","_law_cell"]:g7).Nodup:=by decide +kernel
theorem afp:(["_law_names"]:g7).Nodup:=by decide +kernel
theorem TR:(["_law_names"]:g7).Nodup:=by decide +kernel
theorem Om:(["_law_size","_law_names","_law_found"]:g7).Nodup:=by decide +kernel
theorem TV:(["_law_row"]:g7).Nodup:=by decide +kernel
theorem TX:(["_law_heap"]:g7).Nodup:=by decide +kernel
theorem TY:(["name","heaps"]:g7).Nodup:=by decide +kernel
theorem fc:bB ["one","two","rest"] ["one","two"] (ah cP):=⟨rfl,rfl,rfl,by decide +kernel,rfl,by decide +kernel,by decide +kernel⟩
def eO:SF:=(bH (dm 2 (ai mO (aQ 0) (aQ 1))) (bH (dm 0 (eV 1)) (dm 1 (eV 2))))
def eP:TF:=(cg (ai Mj (aQ 1) (eC (.int 0))))
def iA:SF:=(bH (qf 20000 eP eO) (d5 (eV 0)))
def dP:eY→fU:=kQ 3 [true,true] iA
theorem pI(F:nc K "common_divisor" "common_divisor" cP f fd)(T:Txt K mg a):dw P w K mg base kY 1 f fd ["one","two"] (dS K [true,true] dP) :=
  d4 F fc rfl (fun fT A outer s H E z hr=>by
    have hu:=hr.units;exact(aj (vR 20000 (EH (aL 1) (DE.bo au)) (aj (bV (i:=2) fc.nd (iT (aL 0) (aL 1))) (aj (bV (i:=0) fc.nd (aX 1)) (ao (bV (i:=1) fc.nd (aX 2)))))) (ao (bQ (aX 0)))))
theorem ue:bB ["top","bottom","divisor"] ["top","bottom"] (ah jq):=⟨rfl,rfl,rfl,by decide +kernel,rfl,by decide +kernel,by decide +kernel⟩
def qo:SF:=(bH (dm 2 (aG dP (ae (eV 0) (ae (eV 1) ax)))) (d5 (gA (ae (ai Bw (aQ 0) (aQ 2)) (ae (ai Bw (aQ 1) (aQ 2)) ax)))))
def iB:eY→fU:=kQ 3 [true,true] qo
theorem BL(F:nc K "lowest" "lowest" jq f fd)(T:Txt K mg a)(qp:gE P w K mg base 1 a.dI ["one","two"] (dS K [true,true] dP)):dw P w K mg base kY 2 f fd ["top","bottom"] (dS K [true,true] iB) :=
  d4 F ue rfl (fun fT A outer s H E z hr=>by
    have hu:=hr.units;exact(aj (bV (i:=2) ue.nd (bI qp (hr.mono (by decide)) rfl T.dI (av (aX 0) (av (aX 1) az)))) (ao (bQ (gH (n:=2) (av (Fd (aL 0) (aL 2)) (av (Fd (aL 1) (aL 2)) az)))))))
theorem Dq:bB ["one","two"] ["one","two"] (ah kc):=⟨rfl,rfl,rfl,by decide +kernel,rfl,by decide +kernel,by decide +kernel⟩
def tJ:SF:=(d5 (aG iB (ae (ai jQ (ai n8 (ai jd (aQ 0) (eC (.int 0))) (ai jd (aQ 1) (eC (.int 1)))) (ai n8 (ai jd (aQ 1) (eC (.int 0))) (ai jd (aQ 0) (eC (.int 1))))) (ae (ai n8 (ai jd (aQ 0) (eC (.int 1))) (ai jd (aQ 1) (eC (.int 1)))) ax))))
def jt:eY→fU:=kQ 2 [true,true] tJ
theorem Dr(F:nc K "added" "added" kc f fd)(T:Txt K mg a)(qt:gE P w K mg base 2 a.iy ["top","bottom"] (dS K [true,true] iB)):dw P w K mg base kY 3 f fd ["one","two"] (dS K [true,true] jt) :=
  d4 F Dq rfl (fun fT A outer s H E z hr=>by
    have hu:=hr.units;exact(ao (bQ (bI qt (hr.mono (by decide)) rfl T.iy (av (gJ (DE.bo (mR (iS (aL 0) (DE.bo au)) (iS (aL 1) (DE.bo au)))) (DE.bo (mR (iS (aL 1) (DE.bo au)) (iS (aL 0) (DE.bo au))))) (av (mR (iS (aL 0) (DE.bo au)) (iS (aL 1) (DE.bo au))) az))))))
theorem G6:bB ["one","two"] ["one","two"] (ah ml):=⟨rfl,rfl,rfl,by decide +kernel,rfl,by decide +kernel,by decide +kernel⟩
def wm:SF:=(d5 (ai Gy (ai n8 (ai jd (aQ 0) (eC (.int 0))) (ai jd (aQ 1) (eC (.int 1)))) (ai n8 (ai jd (aQ 1) (eC (.int 0))) (ai jd (aQ 0) (eC (.int 1))))))
def oq:eY→fU:=kQ 2 [true,true] wm
theorem G7(F:nc K "less" "less" ml f fd)(T:Txt K mg a):dw P w K mg base kY 1 f fd ["one","two"] (dS K [true,true] oq) :=
  d4 F G6 rfl (fun fT A outer s H E z hr=>by
    have hu:=hr.units;exact(ao (bQ (S9 (DE.bo (mR (iS (aL 0) (DE.bo au)) (iS (aL 1) (DE.bo au)))) (DE.bo (mR (iS (aL 1) (DE.bo au)) (iS (aL 0) (DE.bo au))))))))
theorem wo:bB ["one","two"] ["one","two"] (ah gg):=⟨rfl,rfl,rfl,by decide +kernel,rfl,by decide +kernel,by decide +kernel⟩
def lF:SF:=(d5 (sF kB (ae (eL (dg 1 [1] (ia (eV 0)) (aZ true 0) (cg (ai (inD false) (aQ 0) (aQ 1))) (eV 0))) ax)))
def gp:eY→fU:=kQ 2 [true,false] lF
theorem wq(F:nc K "in_common" "in_common" gg f fd)(T:Txt K mg a):dw P w K mg base kY 1 f fd ["one","two"] (dS K [true,false] gp) :=
  d4 F wo rfl (fun fT A outer s H E z hr=>by
    have hu:=hr.units;exact(ao (bQ (gI dz mM rfl T.pV lA (dk (DE.bo (DO.sh (jB rfl (tgs:=["name"]) (fi:=[1]) (fh.of rfl) (by decide) (iU (aX 0)) (fun _ _ _ _=>(bL 0 XM)) (fun _ _ _ _=>(rj (Ba (aL 0) (aL 1)))) (fun _ _ _ _=>(aX 0))))) az)))))
theorem Ds:bB ["heaps","names"] ["heaps","names"] (ah ke):=⟨rfl,rfl,rfl,by decide +kernel,rfl,by decide +kernel,by decide +kernel⟩
def tK:SF:=(d5 (sF Gv (ae (eL (dg 2 [1] (ia (eV 0)) (nC 2 (df (aZ true 0) (df (aZ true 1) nA))) iV (ai xG (aQ 1) (Jc jG (aG gp (ae (eV 0) (ae (aQ 2) ax))))))) ax)))
def gY:eY→fU:=kQ 2 [true,true] tK
theorem Dt(F:nc K "worth" "worth" ke f fd)(T:Txt K mg a)(xO:gE P w K mg base 1 a.ib ["one","two"] (dS K [true,false] gp)):dw P w K mg base kY 2 f fd ["heaps","names"] (dS K [true,true] gY) :=
  d4 F Ds rfl (fun fT A outer s H E z hr=>by
    have hu:=hr.units;exact(ao (bQ (gI (AU rfl) Jb rfl T.Ol IE (dk (DE.bo (DO.sh (jB rfl (tgs:=["named","many"]) (fi:=[1]) (fh.of rfl) (by decide) (iU (aX 0)) (fun _ _ _ _=>(qe rfl (eF (bL 0 TL) (eF (bL 1 TL) mP)))) (fun _ _ _ _=>lb) (fun _ _ _ _=>(sW (aL 1) (DE.bo (Qe rfl T.fO (fun H=>T.BJ H) (DE.bo (bI xO (hr.mono (by decide)) rfl T.ib (av (aX 0) (dk (aL 2) az))))))))))) az)))))
theorem tL:bB ["one","two"] ["one","two"] (ah d8):=⟨rfl,rfl,rfl,by decide +kernel,rfl,by decide +kernel,by decide +kernel⟩
def jT:SF:=(bH (kD (mK (cg (ai lY (aQ 0) (eC .non))) (cg (ai lY (aQ 1) (eC .non)))) (d5 (ai Bb (aQ 0) (eC .non))) cn) (d5 (aG oq (ae (eV 0) (ae (eV 1) ax)))))
def er:eY→fU:=kQ 2 [true,true] jT
theorem tM(F:nc K "comes_ahead" "comes_ahead" d8 f fd)(T:Txt K mg a)(Kj:gE P w K mg base 1 a.oh ["one","two"] (dS K [true,true] oq)):dw P w K mg base kY 2 f fd ["one","two"] (dS K [true,true] er) :=
  d4 F tL rfl (fun fT A outer s H E z hr=>by
    have hu:=hr.units;exact(aj (cO (DW.t (vF (zx (aL 0) (DE.bo jP)) (qc (zx (aL 1) (DE.bo jP))))) (ao (bQ (EI (aL 0) (DE.bo jP)))) bF) (ao (bQ (bI Kj (hr.mono (by decide)) rfl T.oh (av (aX 0) (av (aX 1) az)))))))
theorem pJ:bB ["heaps","name"] ["heaps","name"] (ah cQ):=⟨rfl,rfl,rfl,by decide +kernel,rfl,by decide +kernel,by decide +kernel⟩
def iC:SF:=(d5 (sF Gv (ae (eL (dg 2 [1] (ia (eV 0)) (nC 2 (df (aZ true 0) (df (aZ true 1) nA))) (cg (ai (inD false) (aQ 2) (aQ 0))) (eV 1))) ax)))
def bW:eY→fU:=kQ 2 [true,true] iC
theorem pK(F:nc K "ballots_naming" "ballots_naming" cQ f fd)(T:Txt K mg a):dw P w K mg base kY 1 f fd ["heaps","name"] (dS K [true,true] bW) :=
  d4 F pJ rfl (fun fT A outer s H E z hr=>by
    have hu:=hr.units;exact(ao (bQ (gI (AU rfl) Jb rfl T.Ol IE (dk (DE.bo (DO.sh (jB rfl (tgs:=["names","many"]) (fi:=[1]) (fh.of rfl) (by decide) (iU (aX 0)) (fun _ _ _ _=>(qe rfl (eF (bL 0 TQ) (eF (bL 1 TQ) mP)))) (fun _ _ _ _=>(rj (Ba (aL 2) (aL 0)))) (fun _ _ _ _=>(aX 1))))) az)))))
theorem eQ:bB ["names","rows","load","name","brought"] ["names","rows"] (ah dF):=⟨rfl,rfl,rfl,by decide +kernel,rfl,by decide +kernel,by decide +kernel⟩
def iD:SF:=(kD (cg (ai (inD false) (aQ 3) (aQ 0))) (dm 2 (eV 4)) cn)
def ju:SF:=(bH (dm 2 (gA (ae (eC (.int 0)) (ae (eC (.int 1)) ax)))) (bH (md (CZ 1) (nC 2 (df (aZ false 3) (df (aZ false 4) nA))) iD) (d5 (eV 2))))
def cz:eY→fU:=kQ 5 [true,false] ju
theorem rT(F:nc K "load_of_heap" "load_of_heap" dF f fd)(T:Txt K mg a):dw P w K mg base kY 1 f fd ["names","rows"] (dS K [true,false] cz) :=
  d4 F eQ rfl (fun fT A outer s H E z hr=>by
    have hu:=hr.units;exact(aj (bV (i:=2) eQ.nd (gH (n:=2) (av au (av au az)))) (aj (kE rfl (N6 1) (qe rfl (eF (bL 3 eQ.nd) (eF (bL 4 eQ.nd) mP))) (ao (cO (Ba (aL 3) (aL 0)) (ao (bV (i:=2) eQ.nd (aX 4))) bF))) (ao (bQ (aX 2))))))
theorem cL:bB ["heaps","rows","name","many_in_all","together","names","many","load"] ["heaps","rows","name"] (ah dE):=⟨rfl,rfl,rfl,by decide +kernel,rfl,by decide +kernel,by decide +kernel⟩
def cS:SF:=(kD (cg (ai (inD false) (aQ 2) (aQ 5))) (bH (dm 7 (aG cz (ae (eV 5) (ae (aQ 1) ax)))) (dm 4 (aG jt (ae (eV 4) (ae (gA (ae (ai n8 (aQ 6) (ai jd (aQ 7) (eC (.int 0)))) (ae (ai jd (eV 7) (eC (.int 1))) ax))) ax))))) cn)
def jv:SF:=(bH (dm 3 (aG bW (ae (eV 0) (ae (eV 2) ax)))) (bH (kD (cg (ai jf (aQ 3) (eC (.int 0)))) (d5 (eC .non)) cn) (bH (dm 4 (gA (ae (eC (.int 1)) (ae (eC (.int 1)) ax)))) (bH (md (ia (eV 0)) (nC 2 (df (aZ true 5) (df (aZ true 6) nA))) cS) (d5 (aG iB (ae (ai jd (eV 4) (eC (.int 0))) (ae (ai n8 (aQ 3) (ai jd (aQ 4) (eC (.int 1)))) ax))))))))
def fI:eY→fU:=kQ 8 [true,false,true] jv
theorem rV(F:nc K "load_of_name" "load_of_name" dE f fd)(T:Txt K mg a)(G8:gE P w K mg base 3 a.mq ["one","two"] (dS K [true,true] jt))(iE:gE P w K mg base 1 a.cw ["heaps","name"] (dS K [true,true] bW))(jw:gE P w K mg base 1 a.cR ["names","rows"] (dS K [true,false] cz))(qt:gE P w K mg base 2 a.iy ["top","bottom"] (dS K [true,true] iB)):dw P w K mg base kY 4 f fd ["heaps","rows","name"] (dS K [true,false,true] fI) :=
  d4 F cL rfl (fun fT A outer s H E z hr=>by
    have hu:=hr.units;exact(aj (bV (i:=3) cL.nd (bI iE (hr.mono (by decide)) rfl T.cw (av (aX 0) (av (aX 2) az)))) (aj (cO (rC hu (aL 3) (DE.bo au)) (ao (bQ jP)) bF) (aj (bV (i:=4) cL.nd (gH (n:=2) (av au (av au az)))) (aj (kE rfl (iU (aX 0)) (qe rfl (eF (bL 5 cL.nd) (eF (bL 6 cL.nd) mP))) (ao (cO (Ba (aL 2) (aL 5)) (aj (bV (i:=7) cL.nd (bI jw (hr.mono (by decide)) rfl T.cR (av (aX 5) (dk (aL 1) az)))) (ao (bV (i:=4) cL.nd (bI G8 (hr.mono (by decide)) rfl T.mq (av (aX 4) (av (gH (n:=2) (av (mR (aL 6) (iS (aL 7) (DE.bo au))) (av (qY (aX 7) (DE.bo au)) az))) az)))))) bF))) (ao (bQ (bI qt (hr.mono (by decide)) rfl T.iy (av (qY (aX 4) (DE.bo au)) (av (mR (aL 3) (iS (aL 4) (DE.bo au))) az))))))))))
theorem xP:bB ["rows"] ["rows"] (ah gW):=⟨rfl,rfl,rfl,by decide +kernel,rfl,by decide +kernel,by decide +kernel⟩
def fS:SF:=(pT (dg 1 [] (CZ 0) (aZ false 0) iV (ai jd (eV 0) (eC (.int 0)))))
def bC:eY→fU:=kQ 1 [false] fS
theorem xQ(F:nc K "names_of" "names_of" gW f fd)(T:Txt K mg a):dw P w K mg base kY 1 f fd ["rows"] (dS K [false] bC) :=
  d4 F xP rfl (fun fT A outer s H E z hr=>by
    have hu:=hr.units;exact(ao (oT (jB rfl (tgs:=["row"]) (fi:=[]) (fh.of rfl) (by decide) (N6 0) (fun _ _ _ _=>(bL 0 XO)) (fun _ _ _ _=>lb) (fun _ _ _ _=>(qY (aX 0) (DE.bo au)))))))
theorem xR:bB ["count","rows"] ["count","rows"] (ah gX):=⟨rfl,rfl,rfl,by decide +kernel,rfl,by decide +kernel,by decide +kernel⟩
def i9:SF:=(pT (dg 1 [1] (gq (aQ 0)) (aZ true 0) (cg (ai (inD true) (aQ 0) (aG bC (ae (aQ 1) ax)))) (eV 0)))
def dB:eY→fU:=kQ 2 [true,false] i9
theorem xS(F:nc K "unseated" "unseated" gX f fd)(T:Txt K mg a)(gZ:gE P w K mg base 1 a.cV ["rows"] (dS K [false] bC)):dw P w K mg base kY 2 f fd ["count","rows"] (dS K [true,false] dB) :=
  d4 F xR rfl (fun fT A outer s H E z hr=>by
    have hu:=hr.units;exact(ao (oT (jB rfl (tgs:=["name"]) (fi:=[1]) (fh.of rfl) (by decide) (lZ rfl T.oZ (aL 0)) (fun _ _ _ _=>(bL 0 XQ)) (fun _ _ _ _=>(rj (Qk (aL 0) (DE.bo (bI gZ (hr.mono (by decide)) rfl T.cV (dk (aL 1) az)))))) (fun _ _ _ _=>(aX 0))))))
theorem gR:bB ["count","heaps","rows","best","name","load"] ["count","heaps","rows"] (ah gi):=⟨rfl,rfl,rfl,by decide +kernel,rfl,by decide +kernel,by decide +kernel⟩
def jU:SF:=(bH (dm 5 (aG fI (ae (eV 1) (ae (aQ 2) (ae (eV 4) ax))))) (kD (mK (cg (ai lY (aQ 3) (eC .non))) (cg (aG er (ae (eV 5) (ae (ai jd (eV 3) (eC (.int 1))) ax))))) (dm 3 (gA (ae (eV 4) (ae (eV 5) ax)))) cn))
def lG:SF:=(bH (dm 3 (eC .non)) (bH (md (ia (aG dB (ae (eV 0) (ae (aQ 2) ax)))) (aZ true 4) jU) (d5 (eV 3))))
def ig:eY→fU:=kQ 6 [true,true,false] lG
theorem wt(F:nc K "next_load" "next_load" gi f fd)(T:Txt K mg a)(uH:gE P w K mg base 2 a.fY ["one","two"] (dS K [true,true] er))(tN:gE P w K mg base 4 a.fE ["heaps","rows","name"] (dS K [true,false,true] fI))(mV:gE P w K mg base 2 a.fR ["count","rows"] (dS K [true,false] dB)):dw P w K mg base kY 5 f fd ["count","heaps","rows"] (dS K [true,true,false] ig) :=
  d4 F gR rfl (fun fT A outer s H E z hr=>by
    have hu:=hr.units;exact(aj (bV (i:=3) gR.nd jP) (aj (kE rfl (iU (bI mV (hr.mono (by decide)) rfl T.fR (av (aX 0) (dk (aL 2) az)))) (bL 4 gR.nd) (aj (bV (i:=5) gR.nd (bI tN (hr.mono (by decide)) rfl T.fE (av (aX 1) (dk (aL 2) (av (aX 4) az))))) (ao (cO (DW.t (vF (zx (aL 3) (DE.bo jP)) (qc (dZ (bI uH (hr.mono (by decide)) rfl T.fY (av (aX 5) (av (qY (aX 3) (DE.bo au)) az))))))) (ao (bV (i:=3) gR.nd (gH (n:=2) (av (aX 4) (av (aX 5) az))))) bF)))) (ao (bQ (aX 3))))))
theorem mr:bB ["self","count","heaps","rows"] ["self","count","heaps"] (ah ef):=⟨rfl,rfl,rfl,by decide +kernel,rfl,by decide +kernel,by decide +kernel⟩
def gu:SF:=(e8 3 (aG ig (ae (eV 1) (ae (eV 2) (ae (aQ 3) ax)))))
def dh:TF:=(cg (ai Gy (sF kB (ae (aQ 3) ax)) (aQ 1)))
def jV:SF:=(bH (ni 3 (kA ax)) (bH (qf 100 dh gu) (yj 3)))
def aB:eY→fU:=kQ 4 [true,true,true] jV
theorem tO(F:nc K "order" "Loads.order" ef f fd)(T:Txt K mg a)(xT:gE P w K mg base 5 a.ie ["count","heaps","rows"] (dS K [true,true,false] ig)):dw P w K mg base kY 6 f fd ["self","count","heaps"] (dS K [true,true,true] aB) :=
  d4 F mr rfl (fun fT A outer s H E z hr=>by
    have hu:=hr.units;exact(aj (uR (i:=3) mr.nd (mL (n:=0) az)) (aj (vR 100 (A4 (DE.bo (gI dz mM rfl T.pV lA (dk (aL 3) az))) (aL 1)) (ao (fB 3 (bI xT (hr.mono (by decide)) rfl T.ie (av (aX 1) (av (aX 2) (dk (aL 3) az))))))) (ao (zy 3)))))
theorem nu:bB ["self","count","heaps","rows"] ["self","count","heaps"] (ah bJ):=⟨rfl,rfl,rfl,by decide +kernel,rfl,by decide +kernel,by decide +kernel⟩
def kK:SF:=(bH (dm 3 (eL (dg 1 [2] (gq (aQ 1)) (aZ true 0) iV (gA (ae (eV 0) (ae (aG bW (ae (eV 1) (ae (eV 0) ax))) ax)))))) (pT (n9 (eV 3) (gA (ae (xH (ai jd (aQ 0) (eC (.int 1)))) (ae (ai jd (eV 0) (eC (.int 0))) ax))))))
def aN:eY→fU:=kQ 4 [true,true,true] kK
theorem uI{kV doc:Value}(lk:K.lookup f=some ⟨oc,od,.func (fnOf "order" "Most.order" (bA bJ) (bf bJ) (ah bJ) .none kV doc pm an (.ref a.Lq) ct),HC⟩)(ji:codeIn K (.ref a.Lq) "Most.order"=true)(T:Txt K mg a)(hB:base.BuiltinsAt mg a.M4)(iE:gE P w K mg base 1 a.cw ["heaps","name"] (dS K [true,true] bW)):dw P w K mg base kY 6 f (fnOf "order" "Most.order" (bA bJ) (bf bJ) (ah bJ) .none kV doc pm an (.ref a.Lq) ct) ["self","count","heaps"] (dS K [true,true,true] aN) :=
  ML lk ji nu rfl (fun A outer s H E z hr=>by
    have hu:=hr.units;exact(aj (Bl (i:=3) rfl nu.nd (tgs:=["name"]) (fi:=[2]) (fh.of rfl) (by decide) (lZ rfl T.oZ (aL 1)) (fun _ _ _ _=>(bL 0 TY)) (fun _ _ _ _=>lb) (fun _ _ _ _=>(gH (n:=2) (av (aX 0) (av (bI iE (hr.mono (by decide)) rfl T.cw (av (aX 1) (av (aX 0) az))) az))))) (ao (oT (Dk (k:=1) (Nat.lt_of_le_of_lt (Nat.add_le_add_left (by decide:5≤64) _) hr.units) (Tn.mk ⟨["row"],["row"],⟨rfl,rfl,rfl,by decide +kernel,rfl,by decide +kernel,by decide +kernel⟩,rfl,rfl,(fun pm cd ct us hl=>match us,hl with|[_],_=>rfl),fun fl cl A outer s H z hr=>(by
      have hu:=hr.units;exact(gH (n:=2) (av (CV (iS (aL 0) (DE.bo au))) (av (qY (aX 0) (DE.bo au)) az))))⟩) (hr.mono (by decide)) rfl T.rS (aX 3) rfl T.XI T.XJ hB rfl rfl)))))
theorem fJ:bB ["count","heaps","rows","before","best","name","growth"] ["count","heaps","rows"] (ah gh):=⟨rfl,rfl,rfl,by decide +kernel,rfl,by decide +kernel,by decide +kernel⟩
def bY:SF:=(bH (dm 6 (ai zt (aG gY (ae (eV 1) (ae (eL (Gw (aG bC (ae (aQ 2) ax)) (eL (kA (ae (eV 5) ax))))) ax))) (aQ 3))) (kD (mK (cg (ai lY (aQ 4) (eC .non))) (cg (ai Mj (aQ 6) (ai jd (aQ 4) (eC (.int 1)))))) (dm 4 (gA (ae (eV 5) (ae (eV 6) ax)))) cn))
def lH:SF:=(bH (dm 3 (aG gY (ae (eV 1) (ae (aG bC (ae (aQ 2) ax)) ax)))) (bH (dm 4 (eC .non)) (bH (md (ia (aG dB (ae (eV 0) (ae (aQ 2) ax)))) (aZ true 5) bY) (d5 (eV 4)))))
def ik:eY→fU:=kQ 7 [true,true,false] lH
theorem wu(F:nc K "next_turn" "next_turn" gh f fd)(T:Txt K mg a)(gZ:gE P w K mg base 1 a.cV ["rows"] (dS K [false] bC))(mV:gE P w K mg base 2 a.fR ["count","rows"] (dS K [true,false] dB))(yA:gE P w K mg base 2 a.kh ["heaps","names"] (dS K [true,true] gY)):dw P w K mg base kY 3 f fd ["count","heaps","rows"] (dS K [true,true,false] ik) :=
  d4 F fJ rfl (fun fT A outer s H E z hr=>by
    have hu:=hr.units;exact(aj (bV (i:=3) fJ.nd (bI yA (hr.mono (by decide)) rfl T.kh (av (aX 1) (av (bI gZ (hr.mono (by decide)) rfl T.cV (dk (aL 2) az)) az)))) (aj (bV (i:=4) fJ.nd jP) (aj (kE rfl (iU (bI mV (hr.mono (by decide)) rfl T.fR (av (aX 0) (dk (aL 2) az)))) (bL 5 fJ.nd) (aj (bV (i:=6) fJ.nd (CT (DE.bo (bI yA (hr.mono (by decide)) rfl T.kh (av (aX 1) (av (DO.sh (Qf (bI gZ (hr.mono (by decide)) rfl T.cV (dk (aL 2) az)) (DO.sh (mL (n:=1) (av (aX 5) az))))) az)))) (aL 3))) (ao (cO (DW.t (vF (zx (aL 4) (DE.bo jP)) (qc (EH (aL 6) (iS (aL 4) (DE.bo au)))))) (ao (bV (i:=4) fJ.nd (gH (n:=2) (av (aX 5) (av (aX 6) az))))) bF)))) (ao (bQ (aX 4)))))))
theorem mv:bB ["self","count","heaps","rows"] ["self","count","heaps"] (ah d9):=⟨rfl,rfl,rfl,by decide +kernel,rfl,by decide +kernel,by decide +kernel⟩
def gw:SF:=(e8 3 (aG ik (ae (eV 1) (ae (eV 2) (ae (aQ 3) ax)))))
def di:TF:=(cg (ai Gy (sF kB (ae (aQ 3) ax)) (aQ 1)))
def jW:SF:=(bH (ni 3 (kA ax)) (bH (qf 100 di gw) (yj 3)))
def aJ:eY→fU:=kQ 4 [true,true,true] jW
theorem tP(F:nc K "order" "Turns.order" d9 f fd)(T:Txt K mg a)(xU:gE P w K mg base 3 a.ic ["count","heaps","rows"] (dS K [true,true,false] ik)):dw P w K mg base kY 4 f fd ["self","count","heaps"] (dS K [true,true,true] aJ) :=
  d4 F mv rfl (fun fT A outer s H E z hr=>by
    have hu:=hr.units;exact(aj (uR (i:=3) mv.nd (mL (n:=0) az)) (aj (vR 100 (A4 (DE.bo (gI dz mM rfl T.pV lA (dk (aL 3) az))) (aL 1)) (ao (fB 3 (bI xU (hr.mono (by decide)) rfl T.ic (av (aX 1) (av (aX 2) (dk (aL 3) az))))))) (ao (zy 3)))))
theorem lr:bB ["count","heaps","places","rows"] ["count","heaps","places"] (ah dD):=⟨rfl,rfl,rfl,by decide +kernel,rfl,by decide +kernel,by decide +kernel⟩
def jx(a:nr):SF:=(bH (kD (mK (cg (ai Gy (aQ 2) (eC (.int 0)))) (cg (ai Mj (aQ 2) (aQ 0)))) (Dl a.ag) cn) (bH (dm 3 (eL (lB (mj [(a.bj,aN),(a.aP,aJ),(a.aD,aB)] (zJ a.aD) (ae (eV 0) (ae (eV 1) ax))) vL (nZ (aQ 2))))) (pT (dg 2 [3] (ia (eV 1)) (nC 2 (df (aZ true 0) (df (aZ true 1) nA))) iV (aG cz (ae (eV 0) (ae (aQ 2) ax)))))))
def bP(a:nr):eY→fU:=kQ 4 [true,true,true] (jx a)
theorem rW(F:nc K "loads_behind" "loads_behind" dD f fd)(T:Txt K mg a)(eu:gE P w K mg base 6 a.gd ["self","count","heaps"] (dS K [true,true,true] aB))(fK:gE P w K mg base 6 a.gL ["self","count","heaps"] (dS K [true,true,true] aN))(eA:gE P w K mg base 4 a.fZ ["self","count","heaps"] (dS K [true,true,true] aJ))(jw:gE P w K mg base 1 a.cR ["names","rows"] (dS K [true,false] cz)):dw P w K mg base (jL P w) 7 f fd ["count","heaps","places"] (BE K [true,true,true] (bP a)) :=
  Kd F lr rfl (fun fT A outer s H E F₀ hz hr=>by
    have hu:=hr.units;exact(aj (cO (DW.t (vF (A4 (aL 2) (DE.bo au)) (qc (EH (aL 2) (aL 0))))) (ao (By rfl T.ag T.iz)) bF) (aj (bV (i:=3) lr.nd (DO.sh (q0 (uU (fX ⟨_,_,_,T.lq,T.jD,fK,hr.mono (by decide)⟩ (fX ⟨_,_,_,T.jJ,T.i3,eA,hr.mono (by decide)⟩ (fX ⟨_,_,_,T.jK,T.i6,eu,hr.mono (by decide)⟩ uT))) (n6 hz T.kI rfl T.aD) (av (aX 0) (av (aX 1) az))) zr (qZ (aL 2))))) (ao (oT (jB rfl (tgs:=["names","many"]) (fi:=[3]) (fh.of rfl) (by decide) (iU (aX 1)) (fun _ _ _ _=>(qe rfl (eF (bL 0 TN) (eF (bL 1 TN) mP)))) (fun _ _ _ _=>lb) (fun _ _ _ _=>(bI jw (hr.mono (by decide)) rfl T.cR (av (aX 0) (dk (aL 2) az))))))))))
theorem Du:bB ["_law_script","_law_k"] ["_law_script","_law_k"] (ah kf):=⟨rfl,rfl,rfl,by decide +kernel,rfl,by decide +kernel,by decide +kernel⟩
def tQ:SF:=(bH (kD (cg (ai Gy (aQ 1) (sF kB (ae (aQ 0) ax)))) (d5 (ai jd (eV 0) (aQ 1))) cn) (d5 (eC (.int 0))))
def eB:eY→fU:=kQ 2 [true,true] tQ
theorem Dv(F:nc K "_law_cell_at" "_law_cell_at" kf f fd)(T:Txt K mg a):dw P w K mg base kY 1 f fd ["_law_script","_law_k"] (dS K [true,true] eB) :=
  d4 F Du rfl (fun fT A outer s H E z hr=>by
    have hu:=hr.units;exact(aj (cO (A4 (aL 1) (DE.bo (gI dz mM rfl T.pV lA (dk (aL 0) az)))) (ao (bQ (qY (aX 0) (aL 1)))) bF) (ao (bQ au))))
theorem wx:bB ["_law_cell","_law_place","_law_number"] ["_law_cell","_law_place"] (ah oW):=⟨rfl,rfl,rfl,by decide +kernel,rfl,by decide +kernel,by decide +kernel⟩
def Fp:SF:=(bH (dm 2 (ai mO (ai jQ (ai jQ (ai xG (ai mO (aQ 0) (eC (.int 2147483629))) (eC (.int 16807))) (ai xG (eC (.int 69621)) (aQ 1))) (eC (.int 11))) (eC (.int 2147483629)))) (bH (dm 2 (ai mO (ai jQ (ai jQ (ai xG (aQ 2) (aQ 2)) (ai xG (eC (.int 48271)) (aQ 1))) (eC (.int 7))) (eC (.int 2147483629)))) (d5 (ai mO (ai jQ (ai xG (aQ 2) (aQ 2)) (eC (.int 69621))) (eC (.int 2147483587))))))
def j7:eY→fU:=kQ 3 [true,true] Fp
theorem Kk(F:nc K "_law_mixed" "_law_mixed" oW f fd)(T:Txt K mg a):dw P w K mg base kY 1 f fd ["_law_cell","_law_place"] (dS K [true,true] j7) :=
  d4 F wx rfl (fun fT A outer s H E z hr=>by
    have hu:=hr.units;exact(aj (bV (i:=2) wx.nd (iT (DE.bo (gJ (DE.bo (gJ (DE.bo (sW (DE.bo (iT (aL 0) (DE.bo au))) (DE.bo au))) (DE.bo (sW (DE.bo au) (aL 1))))) (DE.bo au))) (DE.bo au))) (aj (bV (i:=2) wx.nd (iT (DE.bo (gJ (DE.bo (gJ (DE.bo (sW (aL 2) (aL 2))) (DE.bo (sW (DE.bo au) (aL 1))))) (DE.bo au))) (DE.bo au))) (ao (bQ (iT (DE.bo (gJ (DE.bo (sW (aL 2) (aL 2))) (DE.bo au))) (DE.bo au)))))))
theorem QJ:bB ["_law_bits","_law_count"] ["_law_bits","_law_count"] (ah yy):=⟨rfl,rfl,rfl,by decide +kernel,rfl,by decide +kernel,by decide +kernel⟩
def JN:SF:=(d5 (nY (eL (dg 1 [0] (gq (aQ 1)) (aZ true 0) (cg (ai jf (ai EE (ai Mi (aQ 1) (aQ 0)) (eC (.int 1))) (eC (.int 1)))) (eV 0)))))
def wz:eY→fU:=kQ 2 [true,true] JN
theorem QK(F:nc K "_law_set" "_law_set" yy f fd)(T:Txt K mg a):dw P w K mg base kY 1 f fd ["_law_bits","_law_count"] (dS K [true,true] wz) :=
  d4 F QJ rfl (fun fT A outer s H E z hr=>by
    have hu:=hr.units;exact(ao (bQ (vK rfl rfl T.mU (DO.sh (jB rfl (tgs:=["_law_name"]) (fi:=[0]) (fh.of rfl) (by decide) (lZ rfl T.oZ (aL 1)) (fun _ _ _ _=>(bL 0 XR)) (fun _ _ _ _=>(rj (rC hu (DE.bo (Mp (DE.bo (Qj (aL 1) (aL 0))) (DE.bo au))) (DE.bo au)))) (fun _ _ _ _=>(aX 0))))))))
theorem il:bB ["_law_script","_law_at","_law_most","_law_count","_law_kind","_law_size","_law_found","_law_cell","_law_rows","_law_names","_law_many"] ["_law_script","_law_at","_law_most","_law_count"] (ah oX):=⟨rfl,rfl,rfl,by decide +kernel,rfl,by decide +kernel,by decide +kernel⟩
def mw:SF:=(bH (dm 9 (aG wz (ae (ai mO (aG j7 (ae (eV 7) (ae (eC (.int 1)) ax))) (ai Qg (eC (.int 1)) (aQ 3))) (ae (eV 3) ax)))) (bH (kD (cg (ai jf (ai mO (ai CQ (aQ 4) (eC (.int 4))) (eC (.int 3))) (eC (.int 1)))) (dm 9 (nY (eL (dg 1 [7] (ia (eV 9)) (aZ true 0) (cg (ai jf (ai CQ (aQ 0) (eC (.int 2))) (ai mO (aG j7 (ae (eV 1) (ae (eC (.int 3)) ax))) (eC (.int 3))))) (eV 0))))) cn) (bH (dm 10 (ai jQ (eC (.int 1)) (ai mO (ai CQ (aQ 7) (eC (.int 7))) (aQ 5)))) (bH (kD (cg (ai jf (ai mO (aQ 7) (eC (.int 5))) (eC (.int 1)))) (dm 10 (eC (.int 6))) cn) (tm 6 (aQ 9) (ai jQ (zF 6 (aQ 9) (eC (.int 0))) (aQ 10)))))))
def Fq:SF:=(bH (dm 4 (aG j7 (ae (aG eB (ae (eV 0) (ae (eV 1) ax))) (ae (eC (.int 5)) ax)))) (bH (dm 5 (ai jd (eL (kA (ae (eC (.int 3)) (ae (eC (.int 10)) (ae (eC (.int 100)) (ae (ai Jf (eC (.int 10)) (eC (.int 30))) ax)))))) (ai mO (aQ 4) (eC (.int 4))))) (bH (Dd 6) (bH (md (ia (eL (lB (eV 0) (nZ (ai jQ (aQ 1) (eC (.int 1)))) (nZ (ai jQ (ai jQ (aQ 1) (eC (.int 1))) (aQ 2)))))) (aZ true 7) mw) (bH (kD (cg (ai jf (v5 6) (eC (.int 0)))) (tm 6 (gA (ae (eC (.int 0)) ax)) (eC (.int 1))) cn) (bH (JG 6 (dm 8 (eL (zD (eL (dg 1 [] (zG 6) (aZ true 0) iV (gA (ae (sF kB (ae (aQ 0) ax)) (ae (eV 0) ax))))))))) (pT (dg 2 [6] (ia (eV 8)) (nC 2 (df (aZ true 0) (df (aZ true 1) nA))) iV (gA (ae (eV 1) (ae (Bo 2 (aQ 1)) ax)))))))))))
def rX:eY→fU:=kQ 11 [true,true,true,true] Fq
theorem Kl(F:nc K "_law_heaps" "_law_heaps" oX f fd)(T:Txt K mg a)(pd:gE P w K mg base 1 a.iM ["_law_script","_law_k"] (dS K [true,true] eB))(zY:gE P w K mg base 1 a.mS ["_law_cell","_law_place"] (dS K [true,true] j7))(T1:gE P w K mg base 1 a.BI ["_law_bits","_law_count"] (dS K [true,true] wz)):dw P w K mg base kY 2 f fd ["_law_script","_law_at","_law_most","_law_count"] (dS K [true,true,true,true] rX) :=
  d4 F il rfl (fun fT A outer s H E z hr=>by
    have hu:=hr.units;exact(aj (bV (i:=4) il.nd (bI zY (hr.mono (by decide)) rfl T.mS (av (bI pd (hr.mono (by decide)) rfl T.iM (av (aX 0) (av (aX 1) az))) (av au az)))) (aj (bV (i:=5) il.nd (qY (DO.sh (mL (n:=4) (av au (av au (av au (av (Jg (DE.bo au) (DE.bo au)) az)))))) (DE.bo (iT (aL 4) (DE.bo au))))) (aj (JC (i:=6) il.nd) (aj (kE rfl (iU (DO.sh (q0 (aX 0) (qZ (DE.bo (gJ (aL 1) (DE.bo au)))) (qZ (DE.bo (gJ (DE.bo (gJ (aL 1) (DE.bo au))) (aL 2))))))) (bL 7 il.nd) (aj (bV (i:=9) il.nd (bI T1 (hr.mono (by decide)) rfl T.BI (av (iT (DE.bo (bI zY (hr.mono (by decide)) rfl T.mS (av (aX 7) (av au az)))) (DE.bo (Qi (DE.bo au) (aL 3)))) (av (aX 3) az)))) (aj (cO (rC hu (DE.bo (iT (DE.bo (zu (aL 4) (DE.bo au))) (DE.bo au))) (DE.bo au)) (ao (bV (i:=9) il.nd (vK rfl rfl T.mU (DO.sh (jB rfl (tgs:=["_law_name"]) (fi:=[7]) (fh.of rfl) (by decide) (iU (aX 9)) (fun _ _ _ _=>(bL 0 XS)) (fun _ _ _ _=>(rj (rC hu (DE.bo (zu (aL 0) (DE.bo au))) (DE.bo (iT (DE.bo (bI zY (hr.mono (by decide)) rfl T.mS (av (aX 1) (av au az)))) (DE.bo au)))))) (fun _ _ _ _=>(aX 0))))))) bF) (aj (bV (i:=10) il.nd (gJ (DE.bo au) (DE.bo (iT (DE.bo (zu (aL 7) (DE.bo au))) (aL 5))))) (aj (cO (rC hu (DE.bo (iT (aL 7) (DE.bo au))) (DE.bo au)) (ao (bV (i:=10) il.nd au)) bF) (ao (Bp (Ek hr) 6 (aL 9) (gJ (DE.bo (JD (Ek hr) 6 (aL 9) au)) (aL 10))))))))) (aj (cO (rC hu (DE.bo (JF 6 rfl T.pV)) (DE.bo au)) (ao (Bp (Ek hr) 6 (DE.bo (gH (n:=1) (av au az))) au)) bF) (aj (My 6 (bV (i:=8) il.nd (DO.sh (Jz (Nat.lt_of_le_of_lt (Nat.add_le_add_left (by decide:5≤64) _) hr.units) rfl T.rS (DE.bo (DO.sh (jB rfl (tgs:=["_law_names"]) (fi:=[]) (fh.of rfl) (by decide) (JJ 6) (fun _ _ _ _=>(bL 0 TR)) (fun _ _ _ _=>lb) (fun _ _ _ _=>(gH (n:=2) (av (gI dz mM rfl T.pV lA (dk (aL 0) az)) (av (aX 0) az))))))))))) (ao (oT (jB rfl (tgs:=["_law_size","_law_names"]) (fi:=[6]) (fh.of rfl) (by decide) (iU (aX 8)) (fun _ _ _ _=>(qe rfl (eF (bL 0 Om) (eF (bL 1 Om) mP)))) (fun _ _ _ _=>lb) (fun _ _ _ _=>(gH (n:=2) (av (aX 1) (av (Mx (Ek hr) 2 (aL 1)) az))))))))))))))
theorem Fs:bB ["_law_found","_law_due","_law_k"] ["_law_found","_law_due"] (ah s_same):=⟨rfl,rfl,rfl,by decide +kernel,rfl,by decide +kernel,by decide +kernel⟩
def wA(Fr:eY→fU):SF:=(kD (jh (cg (aG Fr (ae (ai jd (aQ 0) (aQ 2)) (ae (ai jd (aQ 1) (aQ 2)) ax))))) (d5 (eC (.bl false))) cn)
def g_same(Fr:eY→fU):SF:=(bH (kD (mK (cg (sY "tuple" (aQ 1))) (cg (sY "list" (aQ 1)))) (bH (kD (mK (cg (ai xI (sY "tuple" (aQ 0)) (sY "tuple" (aQ 1)))) (cg (ai xI (sY "list" (aQ 0)) (sY "list" (aQ 1))))) (d5 (eC (.bl false))) cn) (bH (kD (cg (ai xI (sF kB (ae (aQ 0) ax)) (sF kB (ae (aQ 1) ax)))) (d5 (eC (.bl false))) cn) (bH (md (gq (sF kB (ae (aQ 1) ax))) (aZ true 2) (wA Fr)) (d5 (eC (.bl true)))))) cn) (bH (kD (cg (sY "bool" (aQ 1))) (d5 (uD (sY "bool" (aQ 0)) (ai jf (aQ 0) (aQ 1)))) cn) (bH (kD (cg (sY "int" (aQ 1))) (d5 (uD (sY "int" (aQ 0)) (uD (Mb (sY "bool" (aQ 0))) (ai jf (aQ 0) (aQ 1))))) cn) (bH (kD (cg (sY "str" (aQ 1))) (d5 (uD (sY "str" (aQ 0)) (ai jf (aQ 0) (aQ 1)))) cn) (d5 (uD (ai lY (aQ 1) (eC .non)) (ai lY (aQ 0) (eC .non))))))))
def dj:Nat→eY→fU
  |0=>fun _=>none
  |n+1=>kQ 3 [false,false] (g_same (dj n))
theorem step_same{Fr:eY→fU}(F:nc K "_law_same" "_law_same" s_same f fd)(T:Txt K mg a)(Cr:gE P w K mg base k a.jr ["_law_found","_law_due"] (dS K [false,false] Fr)):dw P w K mg base kY (k+1) f fd ["_law_found","_law_due"] (dS K [false,false] (kQ 3 [false,false] (g_same Fr))) :=
  d4 F Fs rfl (fun fT A outer s H E z hr=>by
    have hu:=hr.units;exact(aj (cO (DW.t (vF (dZ (n4 rfl T.aY T.mU (aL 1))) (qc (dZ (qh rfl T.aY T.tI (aL 1)))))) (aj (cO (DW.t (vF (Jq hu (DE.bo (n4 rfl T.aY T.mU (aL 0))) (DE.bo (n4 rfl T.aY T.mU (aL 1)))) (qc (Jq hu (DE.bo (qh rfl T.aY T.tI (aL 0))) (DE.bo (qh rfl T.aY T.tI (aL 1))))))) (ao (bQ pS)) bF) (aj (cO (Jq hu (DE.bo (gI dz mM rfl T.pV lA (dk (aL 0) az))) (DE.bo (gI dz mM rfl T.pV lA (dk (aL 1) az)))) (ao (bQ pS)) bF) (aj (kE rfl (lZ rfl T.oZ (DE.bo (gI dz mM rfl T.pV lA (dk (aL 1) az)))) (bL 2 Fs.nd) (ao (cO (nW (dZ (bI Cr hr rfl T.jr (dk (iS (aL 0) (aL 2)) (dk (iS (aL 1) (aL 2)) az))))) (ao (bQ pS)) bF))) (ao (bQ pS))))) bF) (aj (cO (dZ (qi rfl T.aY T.Dp (aL 1))) (ao (bQ (qd (qi rfl T.aY T.Dp (aL 0)) (sS (Bg hu (aL 0) (aL 1)))))) bF) (aj (cO (dZ (yl rfl T.aY T.Oi (aL 1))) (ao (bQ (qd (yl rfl T.aY T.Oi (aL 0)) (qd (Qd (qi rfl T.aY T.Dp (aL 0))) (sS (Bg hu (aL 0) (aL 1))))))) bF) (aj (cO (dZ (ym rfl T.aY T.Oj (aL 1))) (ao (bQ (qd (ym rfl T.aY T.Oj (aL 0)) (sS (Bg hu (aL 0) (aL 1)))))) bF) (ao (bQ (qd (Ji (aL 1) (DE.bo jP)) (sS (Ji (aL 0) (DE.bo jP)))))))))))
theorem BM(F:nc K "_law_same" "_law_same" s_same a.jr fd)(T:Txt K mg a)(b:Binds K fd ["_law_found","_law_due"] [])(kp:keepIn K (.ref a.jr)=true):∀n,gE P w K mg base (1+n) a.jr ["_law_found","_law_due"] (dS K [false,false] (dj n))
  |0=>⟨fd,Xg,b,kp⟩
  |n+1=>⟨fd,step_same F T  (BM F T b kp  n),b,kp⟩
theorem BO:bB ["_law_e","_law_found"] ["_law_e"] (ah oY):=⟨rfl,rfl,rfl,by decide +kernel,rfl,by decide +kernel,by decide +kernel⟩
def zZ(a:nr):SF:=(bH (ni 1 (kA ax)) (bH (kD (cg (rL [(a.ag,false)] (eV 0))) (e8 1 (eC (.str "NoCount"))) cn) (bH (kD (cg (rL [(a.ag,false)] (eV 0))) (e8 1 (eC (.str "NoName"))) cn) (bH (kD (cg (rL [(a.ag,false)] (eV 0))) (e8 1 (eC (.str "NoHeap"))) cn) (bH (kD (cg (rL [(a.ag,true)] (eV 0))) (e8 1 (eC (.str "NoPlaces"))) cn) (bH (kD (cg (rL [(a.ag,false)] (eV 0))) (e8 1 (eC (.str "NoLists"))) cn) (bH (kD (cg (rL [(a.ag,false)] (eV 0))) (e8 1 (eC (.str "NoRoll"))) cn) (bH (kD (cg (rL [(a.ag,false)] (eV 0))) (e8 1 (eC (.str "NoBallot"))) cn) (bH (kD (cg (rL [(a.ag,false)] (eV 0))) (e8 1 (eC (.str "NoWay"))) cn) (bH (kD (jh (cg (rL [(a.ag,true)] (eV 0)))) (e8 1 (eC (.str "other"))) cn) (yj 1)))))))))))
def pe(a:nr):eY→fU:=kQ 2 [true] (zZ a)
theorem Km(F:nc K "_law_kinds" "_law_kinds" oY f fd)(T:Txt K mg a):dw P w K mg base kY 1 f fd ["_law_e"] (dS K [true] (pe a)) :=
  d4 F BO rfl (fun fT A outer s H E z hr=>by
    have hu:=hr.units;exact(aj (uR (i:=1) BO.nd (mL (n:=0) az)) (aj (cO (dZ (og (eG T.eJ T.dq fQ) rfl T.aY rfl T.fF (aX 0))) (ao (fB 1 kz)) bF) (aj (cO (dZ (og (eG T.eJ T.dM fQ) rfl T.aY rfl T.gO (aX 0))) (ao (fB 1 kz)) bF) (aj (cO (dZ (og (eG T.eJ T.dN fQ) rfl T.aY rfl T.gP (aX 0))) (ao (fB 1 kz)) bF) (aj (cO (dZ (og (eG T.eJ T.om fQ) rfl T.aY rfl T.ag (aX 0))) (ao (fB 1 kz)) bF) (aj (cO (dZ (og (eG T.eJ T.du fQ) rfl T.aY rfl T.fG (aX 0))) (ao (fB 1 kz)) bF) (aj (cO (dZ (og (eG T.eJ T.dO fQ) rfl T.aY rfl T.gQ (aX 0))) (ao (fB 1 kz)) bF) (aj (cO (dZ (og (eG T.eJ T.cY fQ) rfl T.aY rfl T.dJ (aX 0))) (ao (fB 1 kz)) bF) (aj (cO (dZ (og (eG T.eJ T.eK fQ) rfl T.aY rfl T.iY (aX 0))) (ao (fB 1 kz)) bF) (aj (cO (nW (dZ (MV (eG T.eJ T.cK fQ) rfl T.aY rfl T.zW xM (aX 0)))) (ao (fB 1 kz)) bF) (ao (zy 1)))))))))))))
theorem QL:bB ["_law_kind"] ["_law_kind"] (ah yz):=⟨rfl,rfl,rfl,by decide +kernel,rfl,by decide +kernel,by decide +kernel⟩
def Kn(a:nr):SF:=(bH (kD (cg (ai jf (aQ 0) (eC (.int 0)))) (d5 (zJ a.bj)) cn) (bH (kD (cg (ai jf (aQ 0) (eC (.int 1)))) (d5 (zJ a.aP)) cn) (d5 (zJ a.aD))))
def uf(a:nr):eY→fU:=kQ 1 [true] (Kn a)
theorem QM(F:nc K "_law_way" "_law_way" yz f fd)(T:Txt K mg a):dw P w K mg base kY 1 f fd ["_law_kind"] (tE K [true] (uf a)) :=
  zN F QL rfl (fun fT A outer s H E z hz hr=>by
    have hu:=hr.units;exact(aj (cO (rC hu (aL 0) (DE.bo au)) (ao (bQ (n6 hz T.rR rfl T.bj))) bF) (aj (cO (rC hu (aL 0) (DE.bo au)) (ao (bQ (n6 hz T.oo rfl T.aP))) bF) (ao (bQ (n6 hz T.kI rfl T.aD))))))
theorem uJ:bB ["self","count","heaps","places"] ["self","count","heaps","places"] (ah fC):=⟨rfl,rfl,rfl,by decide +kernel,rfl,by decide +kernel,by decide +kernel⟩
def kL(a:nr):SF:=(bH (kD (mK (cg (ai Gy (aQ 3) (eC (.int 1)))) (cg (ai Mj (aQ 3) (aQ 1)))) (Dl a.ag) cn) (pT (nX bC (ae (eL (lB (mj [(a.bj,aN),(a.aP,aJ),(a.aD,aB)] (eV 0) (ae (eV 1) (ae (eV 2) ax))) vL (nZ (aQ 3)))) ax))))
def bw(a:nr):eY→fU:=kQ 4 [true,true,true,true] (kL a)
theorem uK(F:nc K "seated" "Way.seated" fC f fd)(T:Txt K mg a)(eu:gE P w K mg base 6 a.gd ["self","count","heaps"] (dS K [true,true,true] aB))(fK:gE P w K mg base 6 a.gL ["self","count","heaps"] (dS K [true,true,true] aN))(eA:gE P w K mg base 4 a.fZ ["self","count","heaps"] (dS K [true,true,true] aJ))(gZ:gE P w K mg base 1 a.cV ["rows"] (dS K [false] bC)):dw P w K mg base (jL P w) 7 f fd ["self","count","heaps","places"] (MS K [true,true,true,true] (bw a)) :=
  Fh F uJ rfl (fun fT A outer s H E F₀ hr=>by
    have hu:=hr.units;exact(aj (cO (DW.t (vF (A4 (aL 3) (DE.bo au)) (qc (EH (aL 3) (aL 1))))) (ao (By rfl T.ag T.iz)) bF) (ao (oT (Md gZ (hr.mono (by decide)) rfl T.cV (dk (DE.bo (DO.sh (q0 (uU (fX ⟨_,_,_,T.lq,T.jD,fK,hr.mono (by decide)⟩ (fX ⟨_,_,_,T.jJ,T.i3,eA,hr.mono (by decide)⟩ (fX ⟨_,_,_,T.jK,T.i6,eu,hr.mono (by decide)⟩ uT))) (aX 0) (av (aX 1) (av (aX 2) az))) zr (qZ (aL 3))))) az))))))
theorem wB:bB ["self","count","heaps","places"] ["self","count","heaps","places"] (ah gj):=⟨rfl,rfl,rfl,by decide +kernel,rfl,by decide +kernel,by decide +kernel⟩
def lI(a:nr):SF:=(zR [(a.bj,(bw a)),(a.aP,(bw a)),(a.aD,(bw a))] (eV 0) (ae (eV 1) (ae (eV 2) (ae (eV 3) ax))))
def aA(a:nr):eY→fU:=kQ 4 [true,true,true,true] (lI a)
theorem wC(F:nc K "bench" "Way.bench" gj f fd)(T:Txt K mg a)(kM:uE P w K mg base 7 a.gN ["self","count","heaps","places"] (MS K [true,true,true,true] (bw a))):dw P w K mg base (jL P w) 8 f fd ["self","count","heaps","places"] (MS K [true,true,true,true] (aA a)) :=
  Fh F wB rfl (fun fT A outer s H E F₀ hr=>by
    have hu:=hr.units;exact(ao (Kf (d7 ⟨_,_,_,T.lq,T.wj,kM,hr.mono (by decide)⟩ (d7 ⟨_,_,_,T.jJ,T.uF,kM,hr.mono (by decide)⟩ (d7 ⟨_,_,_,T.jK,T.uG,kM,hr.mono (by decide)⟩ rN))) (aX 0) (av (aX 1) (av (aX 2) (av (aX 3) az))) rfl T.mU rfl T.rS)))
theorem qu:bB ["_law_kind","_law_count","_law_heaps_here","_law_places","_law_caught","_law_e"] ["_law_kind","_law_count","_law_heaps_here","_law_places"] (ah kg):=⟨rfl,rfl,rfl,by decide +kernel,rfl,by decide +kernel,by decide +kernel⟩
def tR(a:nr):SF:=(bH (dm 4 (eC .non)) (bH (BH [a.ag] 5 4 (cg (ai jf (aQ 0) (eC (.int 3)))) (bP a) (ae (eV 1) (ae (eV 2) (ae (eV 3) ax))) [(a.bj,(aA a)),(a.aP,(aA a)),(a.aD,(aA a))] (aG (uf a) (ae (eV 0) ax)) (ae (eV 1) (ae (eV 2) (ae (eV 3) ax)))) (d5 (uD (ai Bb (aQ 4) (eC .non)) (ai jf (aG (pe a) (ae (eV 4) ax)) (eL (kA (ae (eC (.str "NoPlaces")) ax))))))))
def iN(a:nr):eY→fU:=kQ 6 [true,true,true,true] (tR a)
theorem Dw(F:nc K "_law_refused" "_law_refused" kg f fd)(T:Txt K mg a)(cE:uE P w K mg base 8 a.gn ["self","count","heaps","places"] (MS K [true,true,true,true] (aA a)))(M6:gE P w K mg base 1 a.rP ["_law_e"] (dS K [true] (pe a)))(Ko:gE P w K mg base 1 a.wg ["_law_kind"] (tE K [true] (uf a)))(g6:uE P w K mg base 7 a.cy ["count","heaps","places"] (BE K [true,true,true] (bP a))):dw P w K mg base kY 9 f fd ["_law_kind","_law_count","_law_heaps_here","_law_places"] (tE K [true,true,true,true] (iN a)) :=
  zN F qu rfl (fun fT A outer s H E z hz hr=>by
    have hu:=hr.units;exact(aj (bV (i:=4) qu.nd jP) (aj (M3 5 4 (fun _ _ z=>z) hz (rC hu (aL 0) (DE.bo au)) g6 (hr.mono (by decide)) rfl T.cy (av (aX 1) (av (aX 2) (av (aX 3) az))) (d7 ⟨_,_,_,T.lq,T.lE,cE,hr.mono (by decide)⟩ (d7 ⟨_,_,_,T.jJ,T.kH,cE,hr.mono (by decide)⟩ (d7 ⟨_,_,_,T.jK,T.kJ,cE,hr.mono (by decide)⟩ rN))) (rM hz Ko (hr.mono (by decide)) rfl T.wg (av (aX 0) az)) (av (aX 1) (av (aX 2) (av (aX 3) az))) qu.nd rfl T.cI T.iZ (Dm T.iz T.cJ G3)) (ao (bQ (qd (EI (aL 4) (DE.bo jP)) (sS (Bg hu (DE.bo (bI M6 (hr.mono (by decide)) rfl T.rP (av (aX 4) az))) (DE.bo (DO.sh (mL (n:=1) (av kz az))))))))))))
theorem cZ:bB ["_law_script","_law_first","_law_count","_law_kind","_law_heaps_here","_law_far","_law_way_here","_law_handed","_law_order","_law_places","_law_loads","_law_row","_law_told","_law_k"] ["_law_script"] (ah j6):=⟨rfl,rfl,rfl,by decide +kernel,rfl,by decide +kernel,by decide +kernel⟩
def pf(a:nr):SF:=(bH (kD (jh (cg (aG (dj 6) (ae (tG [(a.bj,(aA a)),(a.aP,(aA a)),(a.aD,(aA a))] (eV 6) (ae (eC (.int 2)) (ae (eL (kA (ae (gA (ae (gA (ae (eC (.int 0)) ax)) (ae (eC (.int 3)) ax))) (ae (gA (ae (gA (ae (eC (.int 1)) ax)) (ae (eC (.int 4)) ax))) ax)))) (ae (eC (.int 1)) ax)))) (ae (gA (ae (eC (.int 1)) ax)) ax))))) (d5 (eC (.bl false))) cn) (kD (jh (cg (aG (dj 6) (ae (tG [(a.bj,(aA a)),(a.aP,(aA a)),(a.aD,(aA a))] (eV 6) (ae (eV 2) (ae (eV 7) (ae (eV 9) ax)))) (ae (nY (eL (vW (eL (lB (eV 8) vL (nZ (aQ 9))))))) ax))))) (d5 (eC (.bl false))) cn))
def tS(a:nr):SF:=(kD (jh (cg (aG (iN a) (ae (eV 3) (ae (eV 2) (ae (eV 7) (ae (eV 9) ax))))))) (d5 (eC (.bl false))) cn)
def tT(a:nr):SF:=(kD (jh (cg (aG (iN a) (ae (eC (.int 3)) (ae (eV 2) (ae (eV 7) (ae (eV 9) ax))))))) (d5 (eC (.bl false))) cn)
def mx(a:nr):SF:=(kD (cg (ai (inD false) (ai jd (aQ 11) (eC (.int 0))) (ai jd (ai jd (aQ 4) (aQ 13)) (eC (.int 0))))) (Mz 10 (aQ 13) (ai jd (eV 11) (eC (.int 1)))) cn)
def pj(a:nr):SF:=(bH (ni 12 (nX (bP a) (ae (eV 2) (ae (eV 7) (ae (eV 9) ax))))) (bH (kD (jh (cg (aG (dj 6) (ae (aQ 12) (ae (aQ 10) ax))))) (d5 (eC (.bl false))) cn) (bH (zz 12) (md (gq (sF kB (ae (aQ 4) ax))) (aZ true 13) (mx a)))))
def z0(a:nr):SF:=(bH (dm 1 (aG eB (ae (eV 0) (ae (eC (.int 0)) ax)))) (bH (dm 2 (ai jQ (eC (.int 1)) (ai mO (aQ 1) (eC (.int 6))))) (bH (dm 3 (ai mO (ai CQ (aQ 1) (eC (.int 6))) (eC (.int 3)))) (bH (dm 4 (aG rX (ae (eV 0) (ae (eC (.int 2)) (ae (eC (.int 30)) (ae (eV 2) ax)))))) (bH (dm 5 (ai mO (aG eB (ae (eV 0) (ae (eC (.int 1)) ax))) (ai Jf (eC (.int 10)) (eC (.int 39))))) (bH (dm 6 (aG (uf a) (ae (eV 3) ax))) (bH (dm 7 (eL (nh (eV 4)))) (bH (kD (jh (cg (MF [(a.bj,true),(a.aP,true),(a.aD,true)] (eV 6)))) (d5 (eC (.bl false))) cn) (bH (dm 8 (eL (dg 1 [] (ia (mj [(a.bj,aN),(a.aP,aJ),(a.aD,aB)] (eV 6) (ae (eV 2) (ae (eL (nh (eV 4))) ax)))) (aZ true 0) iV (ai jd (eV 0) (eC (.int 0)))))) (bH (md (rh (eC (.int 1)) (ai jQ (aQ 2) (eC (.int 1)))) (aZ true 9) (pf a)) (bH (md (ia (eL (kA (ae (eC (.int 0)) (ae (ai zt (xH (eC (.int 1))) (aQ 5)) (ae (ai jQ (ai jQ (aQ 2) (eC (.int 1))) (aQ 5)) ax)))))) (aZ true 9) (tS a)) (bH (md (ia (eL (kA (ae (ai zt (xH (eC (.int 1))) (aQ 5)) (ae (ai jQ (ai jQ (aQ 2) (eC (.int 1))) (aQ 5)) ax))))) (aZ true 9) (tT a)) (bH (ni 10 (dg 1 [] (ia (eV 4)) (aZ true 0) iV (gA (ae (eC (.int 0)) (ae (eC (.int 1)) ax))))) (bH (md (BD (mj [(a.bj,aN),(a.aP,aJ),(a.aD,aB)] (zJ a.aD) (ae (eV 2) (ae (eL (nh (eV 4))) ax)))) (nC 2 (df (aZ true 9) (df (aZ true 11) nA))) (pj a)) (d5 (uD (aG (dj 6) (ae (eL (nX (bP a) (ae (eV 2) (ae (eV 7) (ae (eV 2) ax))))) (ae (aQ 10) ax))) (ai jf (aQ 7) (aQ 4))))))))))))))))))
def z3(a:nr):eY→fU:=kQ 14 [true] (z0 a)
theorem Kp(F:nc K "law" "law" j6 f fd)(T:Txt K mg a)(eu:gE P w K mg base 6 a.gd ["self","count","heaps"] (dS K [true,true,true] aB))(fK:gE P w K mg base 6 a.gL ["self","count","heaps"] (dS K [true,true,true] aN))(eA:gE P w K mg base 4 a.fZ ["self","count","heaps"] (dS K [true,true,true] aJ))(cE:uE P w K mg base 8 a.gn ["self","count","heaps","places"] (MS K [true,true,true,true] (aA a)))(pd:gE P w K mg base 1 a.iM ["_law_script","_law_k"] (dS K [true,true] eB))(M7:gE P w K mg base 2 a.rO ["_law_script","_law_at","_law_most","_law_count"] (dS K [true,true,true,true] rX))(yB:gE P w K mg base 9 a.ki ["_law_kind","_law_count","_law_heaps_here","_law_places"] (tE K [true,true,true,true] (iN a)))(z4:gE P w K mg base 7 a.jr ["_law_found","_law_due"] (dS K [false,false] (dj 6)))(Ko:gE P w K mg base 1 a.wg ["_law_kind"] (tE K [true] (uf a)))(g6:uE P w K mg base 7 a.cy ["count","heaps","places"] (BE K [true,true,true] (bP a))):dw P w K mg base kY 10 f fd ["_law_script"] (tE K [true] (z3 a)) :=
  zN F cZ rfl (fun fT A outer s H E z hz hr=>by
    have hu:=hr.units;exact(aj (bV (i:=1) cZ.nd (bI pd (hr.mono (by decide)) rfl T.iM (av (aX 0) (av au az)))) (aj (bV (i:=2) cZ.nd (gJ (DE.bo au) (DE.bo (iT (aL 1) (DE.bo au))))) (aj (bV (i:=3) cZ.nd (iT (DE.bo (zu (aL 1) (DE.bo au))) (DE.bo au))) (aj (bV (i:=4) cZ.nd (bI M7 (hr.mono (by decide)) rfl T.rO (av (aX 0) (av au (av au (av (aX 2) az)))))) (aj (bV (i:=5) cZ.nd (iT (DE.bo (bI pd (hr.mono (by decide)) rfl T.iM (av (aX 0) (av au az)))) (DE.bo (Jg (DE.bo au) (DE.bo au))))) (aj (bV (i:=6) cZ.nd (rM hz Ko (hr.mono (by decide)) rfl T.wg (av (aX 3) az))) (aj (bV (i:=7) cZ.nd (DO.sh (zq rfl rfl T.tI (aX 4)))) (aj (cO (nW (dZ (Qz (qk T.M5 T.jI (qk T.Kh T.i5 (qk T.Ki T.i7 GR))) rfl T.aY rfl T.lh (aX 6)))) (ao (bQ pS)) bF) (aj (Bl (i:=8) rfl cZ.nd (tgs:=["_law_row"]) (fi:=[]) (fh.of rfl) (by decide) (iU (uU (fX ⟨_,_,_,T.lq,T.jD,fK,hr.mono (by decide)⟩ (fX ⟨_,_,_,T.jJ,T.i3,eA,hr.mono (by decide)⟩ (fX ⟨_,_,_,T.jK,T.i6,eu,hr.mono (by decide)⟩ uT))) (aX 6) (av (aX 2) (av (DO.sh (zq rfl rfl T.tI (aX 4))) az)))) (fun _ _ _ _=>(bL 0 TV)) (fun _ _ _ _=>lb) (fun _ _ _ _=>(qY (aX 0) (DE.bo au)))) (aj (kE rfl (GB rfl T.oZ (DE.bo au) (DE.bo (gJ (aL 2) (DE.bo au)))) (bL 9 cZ.nd) (aj (cO (nW (dZ (bI z4 (hr.mono (by decide)) rfl T.jr (dk (DE.bo (BG (d7 ⟨_,_,_,T.lq,T.lE,cE,hr.mono (by decide)⟩ (d7 ⟨_,_,_,T.jJ,T.kH,cE,hr.mono (by decide)⟩ (d7 ⟨_,_,_,T.jK,T.kJ,cE,hr.mono (by decide)⟩ rN))) (aX 6) (av au (av (DO.sh (mL (n:=2) (av (gH (n:=2) (av (gH (n:=1) (av au az)) (av au az))) (av (gH (n:=2) (av (gH (n:=1) (av au az)) (av au az))) az)))) (av au az))))) (dk (DE.bo (gH (n:=1) (av au az))) az))))) (ao (bQ pS)) bF) (ao (cO (nW (dZ (bI z4 (hr.mono (by decide)) rfl T.jr (dk (DE.bo (BG (d7 ⟨_,_,_,T.lq,T.lE,cE,hr.mono (by decide)⟩ (d7 ⟨_,_,_,T.jJ,T.kH,cE,hr.mono (by decide)⟩ (d7 ⟨_,_,_,T.jK,T.kJ,cE,hr.mono (by decide)⟩ rN))) (aX 6) (av (aX 2) (av (aX 7) (av (aX 9) az))))) (dk (DE.bo (vK rfl rfl T.mU (DO.sh (Jw (Nat.lt_of_le_of_lt (Nat.add_le_add_left (by decide:5≤64) _) hr.units) rfl T.rS (DE.bo (DO.sh (q0 (aX 8) zr (qZ (aL 9))))))))) az))))) (ao (bQ pS)) bF)))) (aj (kE rfl (iU (DO.sh (mL (n:=3) (av au (av (CT (DE.bo (CV (DE.bo au))) (aL 5)) (av (gJ (DE.bo (gJ (aL 2) (DE.bo au))) (aL 5)) az)))))) (bL 9 cZ.nd) (ao (cO (nW (dZ (rM hz yB (hr.mono (by decide)) rfl T.ki (av (aX 3) (av (aX 2) (av (aX 7) (av (aX 9) az))))))) (ao (bQ pS)) bF))) (aj (kE rfl (iU (DO.sh (mL (n:=2) (av (CT (DE.bo (CV (DE.bo au))) (aL 5)) (av (gJ (DE.bo (gJ (aL 2) (DE.bo au))) (aL 5)) az))))) (bL 9 cZ.nd) (ao (cO (nW (dZ (rM hz yB (hr.mono (by decide)) rfl T.ki (av au (av (aX 2) (av (aX 7) (av (aX 9) az))))))) (ao (bQ pS)) bF))) (aj (Mt (i:=10) rfl cZ.nd (tgs:=["_law_heap"]) (fi:=[]) (fh.of rfl) (by decide) (iU (aX 4)) (fun _ _ _ _=>(bL 0 TX)) (fun _ _ _ _=>lb) (fun _ _ _ _=>(gH (n:=2) (av au (av au az))))) (aj (kE rfl (MZ rfl T.BK (uU (fX ⟨_,_,_,T.lq,T.jD,fK,hr.mono (by decide)⟩ (fX ⟨_,_,_,T.jJ,T.i3,eA,hr.mono (by decide)⟩ (fX ⟨_,_,_,T.jK,T.i6,eu,hr.mono (by decide)⟩ uT))) (n6 hz T.kI rfl T.aD) (av (aX 2) (av (DO.sh (zq rfl rfl T.tI (aX 4))) az)))) (qe rfl (eF (bL 9 cZ.nd) (eF (bL 11 cZ.nd) mP))) (aj (uR (i:=12) cZ.nd (yx hz g6 (hr.mono (by decide)) rfl T.cy (av (aX 2) (av (aX 7) (av (aX 9) az))))) (aj (cO (nW (dZ (bI z4 (hr.mono (by decide)) rfl T.jr (dk (aL 12) (dk (aL 10) az))))) (ao (bQ pS)) bF) (aj (Jm 12) (ao (kE rfl (lZ rfl T.oZ (DE.bo (gI dz mM rfl T.pV lA (dk (aL 4) az)))) (bL 13 cZ.nd) (ao (cO (Ba (iS (aL 11) (DE.bo au)) (iS (iS (aL 4) (aL 13)) (DE.bo au))) (ao (Qq 10 (aL 13) (qY (aX 11) (DE.bo au)))) bF)))))))) (ao (bQ (qd (bI z4 (hr.mono (by decide)) rfl T.jr (dk (DE.bo (DO.sh (yx hz g6 (hr.mono (by decide)) rfl T.cy (av (aX 2) (av (aX 7) (av (aX 2) az)))))) (dk (aL 10) az))) (sS (Bg hu (aL 7) (aL 4)))))))))))))))))))))
end
theorem Dx(ns:bD)(k:Nat):eB [.lst (ns.map D.int),.int (k:Int)]=some (.sh (.int (ns.getD k 0))):=by
  by_cases h:k<ns.length
  · have h1:(k:Int)<((ns.map D.int).length:Nat):=by simp;omega
    have h2:pE (ns.map D.int) (k:Int)=some (.int ns[k]):=uN (by simp[h])
    simp[eB,kQ,dA,tQ,bH,kD,cg,ai,aQ,eV,sF,ae,ax,kB,d5,eC,Gy,iI,jd,cn,h,h2]
  ·simp[eB,kQ,dA,tQ,bH,kD,cg,ai,aQ,eV,sF,ae,ax,kB,d5,eC,Gy,iI,jd,cn,h]
def pL(c p:Int):Int :=
  ((((c%2147483629*16807+69621*p+11)%2147483629*((c%2147483629*16807+69621*p+11)%2147483629)+48271*p+7)%2147483629)*(((c%2147483629*16807+69621*p+11)%2147483629*((c%2147483629*16807+69621*p+11)%2147483629)+48271*p+7)%2147483629)+69621)%2147483587
theorem z5(c p:Int):j7 [.int c,.int p]=some (.sh (.int (pL c p))):=by have a1:mulC (c%2147483629) 16807=true:=De (by decide) (by decide);have a2:mulC 69621 p=true:=JK (by decide) (by decide);have a3:mulC 48271 p=true:=JK (by decide) (by decide);have a4:∀x:Int,mulC (x%2147483629) (x%2147483629)=true:=fun x=>De (by have:=Int.emod_nonneg x (show(2147483629:Int)≠0 by decide);omega) (by have:=Int.emod_lt_of_pos x (show(0:Int)<2147483629 by decide);omega);have m1:∀x:Int,pH x 2147483629=true:=fun x=>rfl;have m2:∀x:Int,pH x 2147483587=true:=fun x=>rfl;simp[j7,kQ,dA,Fp,bH,dm,d5,ai,aQ,eC,mO,jQ,xG,iI,a1,a2,a3,a4,m1,m2,pL]
def BP(b:Int)(c:Int):bD:=((List.range c.toNat).map fun(i:Nat)=>(0:Int)+(i:Int)).filter fun z=>Builtin.bitAnd (b / 2^z.toNat) 1==1
theorem Ft(b:Int)(h0:0≤c):ng c (BP b c):=by
  have q:=AV c.toNat (fun z=>Builtin.bitAnd (b / 2^z.toNat) 1==1)
  have e:((c.toNat:Nat):Int)=c:=by omega
  rw[e] at q;exact q
theorem T2(b:Int)(h0:0≤c)(h6:c≤6):wz [.int b,.int c]=some (.sh (.tup ((BP b c).map D.int))):=by
  have hr:(if c≤10000∧-10000≤c then some (cA 0 c.toNat) else none)=some (cA 0 c.toNat):=bR ⟨by omega,by omega⟩;have hc:fA (aZ true 0) (cg (ai jf (ai EE (ai Mi (aQ 1) (aQ 0)) (eC (.int 1))) (eC (.int 1)))) (eV 0) (cA 0 c.toNat) [none,some (.sh (.int b))]=some ((BP b c).map D.int):=by
    rw[gK];refine iL D.int (fun z=>Builtin.bitAnd (b / 2^z.toNat) 1==1) D.int fun z hz=>?_;obtain⟨i,_,rfl⟩:=lR.mp hz;have hs:Qh b (0+(i:Int))=true:=by unfold Qh;exact km (by omega)
    refine⟨[some (.sh (.int (0+(i:Int)))),some (.sh (.int b))],rfl,?_,fun _=>rfl⟩;simp only[Int.zero_add] at hs⊢;simp[cg,ai,aQ,eC,Mi,EE,iI,hs,jC]
  simp[wz,kQ,dA,JN,d5,nY,eL,dg,gq,aQ,ky,hr,hc,fu]
theorem T3(h1:1≤c)(h6:c≤6):powC 1 c=true∧(2:Int)≤2^c.toNat∧(2:Int)^c.toNat≤64:=by
  have:c=1∨c=2∨c=3∨c=4∨c=5∨c=6:=by omega
  rcases this with rfl|rfl|rfl|rfl|rfl|rfl<;>exact⟨by decide,by decide,by decide⟩/-! ### acZ kept in a dict -/
def enc(p:bD×Int):List Key×D:=(p.1.map Sum.inl,.int p.2)
theorem Fv{a b:bD}(h:a.map (Sum.inl:Int→Key)=b.map Sum.inl):a=b:=by have:=hJ IU h;rwa[yf,yf] at this
def lJ(ps:ip)(k:bD):Option Int:=(ps.find? fun p=>decide (p.1=k)).map (·.2)
def kW(ps:ip)(k:bD)(m:Int):ip :=
  if (ps.any fun p=>decide (p.1=k))=true then ps.map fun p=>if p.1=k then(p.1,m) else p else ps++[(k,m)]
theorem Fw(p:bD×Int)(k:bD):decide ((enc p).1=k.map Sum.inl)=decide (p.1=k):=by
  have:((enc p).1=k.map Sum.inl)↔p.1=k:=⟨fun h=>Fv h,fun h=>by rw[←h];rfl⟩
  simp[this]
theorem wD(k:bD):∀ps:ip,tf (ps.map enc) (k.map Sum.inl)=(lJ ps k).map D.int
  |[]=>rfl
  |p::ps=>by
   have ih:=wD k ps;unfold tf lJ at *;rw[gy,sJ,sJ,Fw];cases decide (p.1=k) with
   |true=>rfl
   |false=>exact ih
theorem Fx(k:bD):∀ps:ip,((ps.map enc).any fun kv=>decide (kv.1=k.map Sum.inl))=ps.any fun p=>decide (p.1=k)
  |[]=>rfl
  |p::ps=>by rw[gy,List.any_cons,List.any_cons,Fx k ps,Fw]
theorem BQ(ps:ip)(k:bD)(m:Int):putD (ps.map enc) (k.map Sum.inl) (.int m)=(kW ps k m).map enc:=by
  unfold putD kW;rw[Fx];by_cases h:(ps.any fun p=>decide (p.1=k))=true
  · rw[bR h,bR h,ko,ko];refine List.map_congr_left fun p _=>?_;show(if (enc p).1=k.map Sum.inl then((enc p).1,D.int m) else enc p)=enc (if p.1=k then(p.1,m) else p);by_cases e:p.1=k
    ·rw[bR e,bR (show(enc p).1=k.map Sum.inl by rw[←e];rfl)];rfl
    ·rw[bS e,bS (show ¬ (enc p).1=k.map Sum.inl from fun z=>e (Fv z))]
  ·rw[bS h,bS h,List.map_append];rfl
structure Ci (c:Int) (ps:ip):Prop where
  nd:(ps.map (·.1)).Nodup
  all:∀p∈ps,ng c p.1∧1≤p.2
theorem Kq{k:bD}{m:Int}(h:lJ ps k=some m):(k,m)∈ps:=by
  unfold lJ at h;obtain⟨p,h1,h2⟩:=pv.mp h;have h3:=List.find?_some h1;have h4:=List.mem_of_find?_eq_some h1;obtain⟨a,b⟩:=p;have e1:a=k:=by simpa using h3
  have e2:b=m:=h2;subst e1 e2;exact h4
theorem z6:∀{ps:ip} {k:bD} {m:Int},(ps.map (·.1)).Nodup→(k,m)∈ps→lJ ps k=some m
  |[],_,_,_,h=>nomatch h
  |p::r,k,m,nd,h=>by
   rw[gy] at nd;obtain⟨h1,h2⟩:=List.nodup_cons.mp nd;unfold lJ;rcases gB.mp h with e|e
   ·rw[←e,sJ];simp
   ·have:¬ p.1=k:=fun z=>h1 (lR.mpr ⟨(k,m),e,z.symm⟩);rw[sJ];simp only[this,decide_false];exact z6 h2 e
theorem G9(ps:ip)(k:bD)(m:Int):(kW ps k m).map (·.1)=if (ps.any fun p=>decide (p.1=k))=true then ps.map (·.1) else ps.map (·.1)++[k]:=by
  unfold kW;by_cases h:(ps.any fun p=>decide (p.1=k))=true
  ·rw[bR h,bR h,ko];refine List.map_congr_left fun p _=>?_;show(if p.1=k then(p.1,m) else p).1=p.1;split<;>rfl
  ·rw[bS h,bS h,List.map_append];rfl
theorem BR(ps:ip)(k:bD)(m:Int):(kW ps k m).length≤ps.length+1:=by unfold kW;split<;>simp
theorem Ci.put(h:Ci c ps){k:bD}{m:Int}(hs:ng c k)(hm:1≤m):Ci c (kW ps k m):=by
  refine⟨?_,fun p hp=>?_⟩
  · rw[G9];by_cases q:(ps.any fun p=>decide (p.1=k))=true
    ·rw[bR q];exact h.nd
    ·rw[bS q];refine El h.nd fun hk=>q ?_;obtain⟨p,h1,h2⟩:=lR.mp hk;exact List.any_eq_true.mpr ⟨p,h1,km h2⟩
  · unfold kW at hp;split at hp
    · obtain⟨p',h1,h2⟩:=lR.mp hp;by_cases e:p'.1=k
      ·rw[bR e] at h2;rw[←h2,e];exact⟨hs,hm⟩
      ·rw[bS e] at h2;rw[←h2];exact h.all p' h1
    · rcases sI.mp hp with q|q
      ·exact h.all p q
      · have e:p=(k,m):=by simpa using q
        rw[e];exact⟨hs,hm⟩
theorem Ci.get(h:Ci c ps)(k:bD):0≤(lJ ps k).getD 0:=by
  cases e:lJ ps k with
  |none=>exact Int.le_refl _
  |some m=>have:=(h.all _ (Kq e)).2;simp only[yM];omega
theorem Kr(o:Option Int):(o.map D.int).getD (.int 0)=.int (o.getD 0):=by cases o<;>rfl
theorem yC(k:bD):GK (.tup (k.map D.int))=some (k.map Sum.inl):=uc k
def aK(h:bD×Int):D:=.tup [.tup (h.1.map D.int),.int h.2]
def mW(kind c z:Int):bD:=if kind / 4%3==1 then(BP (pL z 1%2^c.toNat) c).filter (fun n=>n / 2==pL z 3%3) else BP (pL z 1%2^c.toNat) c
def rY(size z:Int):Int:=if z%5==1 then 6 else 1+z / 7%size
theorem Ha(kind z:Int)(h0:0≤c):ng c (mW kind c z):=by
  unfold mW;split
  ·exact(Ft _ h0).filter _
  ·exact Ft _ h0
theorem Ks{size:Int}(hs:0<size)(z:Int):1≤rY size z:=by unfold rY;have:=Int.emod_nonneg (z / 7) (show size≠0 by omega);split<;>omega
def yD(kind size c:Int)(ps:ip)(z:Int):ip:=kW ps (mW kind c z) ((lJ ps (mW kind c z)).getD 0+rY size z)
def ak(rs:ip):Int:=(rs.map fun r=>r.2).sum
theorem Kt{a b:bD}(h:a.Perm b):a.sum=b.sum:=by
  induction h with
  |nil=>rfl
  |cons x _ ih=>rw[List.sum_cons,List.sum_cons,ih]
  |swap x y l=>simp only[List.sum_cons];omega
  |trans _ _ i j=>rw[i,j]
theorem yE(p:bD×Int)(ps:ip)(k:bD):lJ (p::ps) k=if p.1=k then some p.2 else lJ ps k:=by
  unfold lJ;rw[sJ];by_cases e:p.1=k
  ·rw[bR e];simp[e]
  ·rw[bS e];simp[e]
theorem Hb{k:bD}:lJ ps k=none↔k∉ps.map (·.1):=by
  induction ps with
  |nil=>simp[lJ]
  |cons p ps ih =>
   rw[yE];by_cases e:p.1=k
   ·simp[e]
   · rw[bS e,ih,gy,gB];constructor
     · rintro h (q|q)
       ·exact e q.symm
       ·exact h q
     ·exact fun h q=>h (.inr q)
theorem M8(hp:Ci c ps)(k:bD)(m:Int):ak (kW ps k ((lJ ps k).getD 0+m))=ak ps+m:=by
  have key:∀(ps:ip),(ps.map (·.1)).Nodup→∀v,k∈ps.map (·.1)→ak (ps.map fun p=>if p.1=k then(p.1,(lJ ps k).getD 0+v) else p)=ak ps+v:=by
    intro ps;induction ps with
    |nil=>intro _ v h;nomatch h
    |cons p ps ih =>
     intro nd v h;rw[gy] at nd;obtain⟨n1,n2⟩:=List.nodup_cons.mp nd;unfold ak at ih⊢;rw[gy,gy,gy,List.sum_cons,List.sum_cons,yE];by_cases e:p.1=k
     · rw[bR e,bR e];have:(ps.map fun x=>if x.1=k then(x.1,(some p.2:Option Int).getD 0+v) else x)=ps:=by
         refine(List.map_congr_left fun x hx=>?_).trans (List.map_id _);exact bS fun z=>n1 (lR.mpr ⟨x,hx,z.trans e.symm⟩)
       rw[this];show p.2+v+_=_;omega
     · rw[bS e,bS e];have hk:k∈ps.map (·.1):=by
         rcases gB.mp h with z|z
         ·exact absurd z.symm e
         ·exact z
       have:=ih n2 v hk;omega
  by_cases h:k∈ps.map (·.1)
  · unfold kW;have h':(ps.any fun p=>decide (p.1=k))=true:=by
      obtain⟨p,h1,h2⟩:=lR.mp h;exact List.any_eq_true.mpr ⟨p,h1,km h2⟩
    rw[bR h'];exact key ps hp.nd m h
  · unfold kW;have h':¬ (ps.any fun p=>decide (p.1=k))=true:=fun z=>h (by
      obtain⟨p,h1,h2⟩:=List.any_eq_true.mp z;exact lR.mpr ⟨p,h1,yL h2⟩)
    rw[bS h',Hb.mpr h];unfold ak;rw[List.map_append,List.sum_append];simp
theorem QN{S A M:D}{kind size:Int}(h1:1≤c)(h6:c≤6)(hs:0<size)(z:Int)(hl:ps.length<10000)(o8 o9 Fy:fU):mw [some (.sh S),some (.sh A),some (.sh M),some (.sh (.int c)),some (.sh (.int kind)),some (.sh (.int size)),some (.ot (ps.map enc)),some (.sh (.int z)),o8,o9,Fy]=some (.nx [some (.sh S),some (.sh A),some (.sh M),some (.sh (.int c)),some (.sh (.int kind)),some (.sh (.int size)),some (.ot ((yD kind size c ps z).map enc)),some (.sh (.int z)),o8,some (.sh (.tup ((mW kind c z).map D.int))),some (.sh (.int (rY size z)))]):=by
  obtain⟨p1,p2,p3⟩:=T3 h1 h6;have hm:∀y,pH y (2^c.toNat)=true:=fun y=>by unfold pH;exact km (by omega)
  have xJ:∀y,pH y size=true:=fun y=>by unfold pH;exact km hs
  have d1:∀y,divC y 4=true:=fun y=>rfl;have d2:∀y,divC y 2=true:=fun y=>rfl;have d3:∀y,divC y 7=true:=fun y=>rfl;have m1:∀y,pH y 3=true:=fun y=>rfl;have m2:∀y,pH y 5=true:=fun y=>rfl;have Hc:wz [.int (pL z 1%2^c.toNat),.int c]=some (.sh (.tup ((BP (pL z 1%2^c.toNat) c).map D.int))):=T2 _ (by omega) h6;have L5:fA (aZ true 0) (cg (ai jf (ai CQ (aQ 0) (eC (.int 2))) (ai mO (aG j7 (ae (eV 1) (ae (eC (.int 3)) ax))) (eC (.int 3))))) (eV 0) ((BP (pL z 1%2^c.toNat) c).map D.int) [none,some (.sh (.int z))] =
      some (((BP (pL z 1%2^c.toNat) c).filter (fun n=>n / 2==pL z 3%3)).map D.int):=by
    refine iL D.int (fun n=>n / 2==pL z 3%3) D.int fun n _=>⟨[some (.sh (.int n)),some (.sh (.int z))],rfl,?_,fun _=>rfl⟩
    simp[cg,ai,aQ,eC,eV,div_ii (d2 _),lC (m1 _),aG,ae,ax,z5,jC]
  have QO:∀(k:bD) (m:Int),putD (ps.map enc) (k.map Sum.inl) (.int m)=(kW ps k m).map enc:=BQ ps;by_cases q1:kind / 4%3=1<;>by_cases q2:z%5=1 <;>
    simp[mw,bH,dm,kD,cn,cg,ai,aQ,eV,eC,aG,ae,ax,z5,Qu p1,lC (hm _),lC (xJ _),div_ii (d1 _),div_ii (d3 _),lC (m1 _),lC (m2 _),qj,Hc,jC,q1,q2,nY,eL,dg,ia,fu,ky,L5,tm,zF,dT,yC,wD,Kr,hl,QO,yD,mW,rY]
theorem QP{S A M:D}{kind size:Int}(h1:1≤c)(h6:c≤6)(hs:0<size)(zs:bD)(hz:zs.length≤1000){B:Int}(hM:∀z,rY size z≤B):∃(ps:ip) (o7 o9 Fy:fU),Ci c ps∧ps.length≤zs.length∧ak ps≤(zs.length:Int)*B∧jm (aZ true 7) mw (zs.map D.int) [some (.sh S),some (.sh A),some (.sh M),some (.sh (.int c)),some (.sh (.int kind)),some (.sh (.int size)),some (.ot []),none,none,none,none]=some (.nx [some (.sh S),some (.sh A),some (.sh M),some (.sh (.int c)),some (.sh (.int kind)),some (.sh (.int size)),some (.ot (ps.map enc)),o7,none,o9,Fy]):=by
  obtain⟨η',e,ps,o7,o9,Fy,hp,hl,hmm,rfl⟩:=rF (b:=aZ true 7) (g:=mw) (ds:=zs.map D.int)
    (η:=[some (.sh S),some (.sh A),some (.sh M),some (.sh (.int c)),some (.sh (.int kind)),some (.sh (.int size)),some (.ot []),none,none,none,none])
    (fun i η=>∃(ps:ip) (o7 o9 Fy:fU),Ci c ps∧ps.length≤i∧ak ps≤(i:Int)*B∧η=[some (.sh S),some (.sh A),some (.sh M),some (.sh (.int c)),some (.sh (.int kind)),some (.sh (.int size)),some (.ot (ps.map enc)),o7,none,o9,Fy]) 0
    ⟨[],none,none,none,⟨List.nodup_nil,fun _ h=>nomatch h⟩,pY _,by simp[ak],rfl⟩ (fun i d η hd ⟨ps,o7,o9,Fy,hp,hl,hmm,e⟩=>by
      subst e;rw[nI] at hd;obtain⟨z,hz1,rfl⟩:=pv.mp hd;have hi:=(u0.mp hz1).1;refine⟨_,_,rfl,.inl (QN h1 h6 hs z (by omega) none o9 Fy),yD kind size c ps z,_,_,_,hp.put (Ha _ _ (by omega)) ?_,?_,?_,rfl⟩
      ·have:=hp.get (mW kind c z);have:=Ks hs z;omega
      ·have:=BR ps (mW kind c z) ((lJ ps (mW kind c z)).getD 0+rY size z);show(yD kind size c ps z).length≤_;unfold yD;omega
      · unfold yD;rw[M8 hp];have:=hM z;have e2:((0+i+1:Nat):Int)*B=(i:Int)*B+B:=by rw[Int.natCast_add,Int.add_mul];simp
        rw[e2];have e3:((0+i:Nat):Int)*B=(i:Int)*B:=by simp
        omega)
  exact⟨ps,o7,o9,Fy,hp,by simpa using hl,by simpa using hmm,e⟩
theorem T4{k:Int}:∃s:Int,(0<s∧s≤10^30)∧pE [D.int 3,D.int 10,D.int 100,D.int (10^30)] (k%4)=some (.int s):=by
  have h0:=Int.emod_nonneg k (show(4:Int)≠0 by decide);have h4:=Int.emod_lt_of_pos k (show(0:Int)<4 by decide);have:k%4=0∨k%4=1∨k%4=2∨k%4=3:=by omega
  rcases this with e|e|e|e<;>rw[e]
  ·exact⟨3,⟨by decide,by decide⟩,rfl⟩
  ·exact⟨10,⟨by decide,by decide⟩,rfl⟩
  ·exact⟨100,⟨by decide,by decide⟩,rfl⟩
  ·exact⟨10^30,⟨by decide,by decide⟩,rfl⟩
def tU(p:bD×Int):Int×bD:=((p.1.length:Int),p.1)
def lK(ps:ip):ip:=(mh (ps.map tU)).map fun q=>(q.2,(lJ ps q.2).getD 0)
theorem Fz(h:Ci c ps):(ps.map tU).Nodup:=by have q:=h.nd;unfold List.Nodup at q⊢;rw[List.pairwise_map] at q⊢;exact q.imp fun {a b} xD e=>xD (by injection e)
theorem mY(h:Ci c ps){q:Int×bD}(hq:q∈mh (ps.map tU)):∃m,(q.2,m)∈ps∧lJ ps q.2=some m∧q.1=(q.2.length:Int):=by obtain⟨p,h1,rfl⟩:=lR.mp ((jo _).mem_iff.mp hq);exact⟨p.2,h1,z6 h.nd h1,rfl⟩
theorem Hd(h:Ci c ps)(mz:ps≠[])(hl:ps.length≤63):Ex c (lK ps):=by
  have hlen:(mh (ps.map tU)).length=ps.length:=by rw[(jo _).length_eq,dX]
  refine⟨fun e=>mz ?_,fun x hx=>?_,?_,?_⟩
  · have:(mh (ps.map tU)).length=0:=by
      have:=hJ List.length e;simpa[lK] using this
    exact List.eq_nil_of_length_eq_zero (by omega)
  ·obtain⟨q,hq,rfl⟩:=lR.mp hx;obtain⟨m,h1,h2,_⟩:=mY h hq;have:=h.all _ h1;rw[h2];exact this
  ·unfold lK;rw[List.pairwise_map];refine List.Pairwise.imp_of_mem (fun {a b} ha hb xD=>?_) (Bj (Fz h));obtain⟨_,_,_,e1⟩:=mY h ha;obtain⟨_,_,_,e2⟩:=mY h hb;rw[←e1,←e2];exact xD
  ·unfold lK;rw[dX,hlen];exact hl
theorem QQ(ps:ip){η:cD}:fA (aZ true 0) iV (gA (ae (sF kB (ae (aQ 0) ax)) (ae (eV 0) ax))) ((ps.map enc).map fun kv=>.tup (kv.1.map GL)) [none]=some ((ps.map tU).map jX):=by
  rw[ko,ko];refine gf (fun p=>.tup (((enc p).1).map GL)) (jX∘tU) fun p _=>⟨[some (.sh (.tup (p.1.map D.int)))],?_,rfl,?_⟩
  · have:((enc p).1).map GL=p.1.map D.int:=by
      show(p.1.map Sum.inl).map GL=_;rw[ko];rfl
    rw[this];rfl
  ·simp[gA,ae,ax,sF,kB,aQ,eV,jX,tU]
theorem T5(h:Ci c ps):fA (nC 2 (df (aZ true 0) (df (aZ true 1) nA))) iV (gA (ae (eV 1) (ae (Bo 2 (aQ 1)) ax))) ((mh (ps.map tU)).map jX) [none,none,some (.ft (ps.map enc))]=some ((lK ps).map aK):=by
  unfold lK;rw[ko];refine gf jX _ fun q hq=>⟨[some (.sh (.int q.1)),some (.sh (.tup (q.2.map D.int))),some (.ft (ps.map enc))],rfl,rfl,?_⟩
  obtain⟨m,_,h2,_⟩:=mY h hq;simp[gA,ae,ax,eV,aQ,Bo,dT,yC,wD,h2,aK]
theorem ug(hp:Ci c ps):(lK ps).Perm ps:=by
  unfold lK;refine((jo _).map _).trans ?_;rw[ko];have:ps.map ((fun q:Int×bD=>(q.2,(lJ ps q.2).getD 0))∘tU)=ps:=by refine(List.map_congr_left fun p hm=>?_).trans (List.map_id _);show(p.1,(lJ ps p.1).getD 0)=p;rw[z6 hp.nd (show(p.1,p.2)∈ps from hm)];rfl
  rw[this]
theorem M9(ns:bD)(a m:Nat)(h1:1≤c)(h6:c≤6)(hn:ns.length≤63)(ha:1≤a):∃hs,rX [.lst (ns.map D.int),.int a,.int m,.int c]=some (.ol (hs.map aK))∧Ex c hs∧∃ps,Ci c ps∧hs=lK ps∧ps.length≤63∧ak ps≤((m:Nat):Int)*10^30+1:=by
  obtain⟨s,⟨hs,hsM⟩,es⟩:=T4 (k:=pL (ns.getD a 0) 5);have hp:powC 10 30=true:=by decide
  have zl:((ns.drop (HT.qK ns.length 0 (some ((a:Int)+1)))).take (HT.qK ns.length ns.length (some ((a:Int)+1+(m:Int)))-HT.qK ns.length 0 (some ((a:Int)+1)))).length≤62:=by
    rw[List.length_take,List.length_drop];have e:((a:Int)+1)=((a+1:Nat):Int):=by omega
    rw[e,HT.uM];omega
  have zm:((ns.drop (HT.qK ns.length 0 (some ((a:Int)+1)))).take (HT.qK ns.length ns.length (some ((a:Int)+1+(m:Int)))-HT.qK ns.length 0 (some ((a:Int)+1)))).length≤m:=by
    rw[List.length_take,List.length_drop];have e:((a:Int)+1)=((a+1:Nat):Int):=by omega
    have e':((a:Int)+1+(m:Int))=((a+1+m:Nat):Int):=by omega
    rw[e',e,HT.uM,HT.uM];omega
  have hM:∀z,rY s z≤10^30:=fun z=>by
    unfold rY;split
    ·decide
    ·have:=Int.emod_lt_of_pos (z / 7) hs;omega
  obtain⟨ps,o7,o9,Fy,hP,hL,XT,e4⟩:=QP (S:=.lst (ns.map D.int)) (A:=.int a) (M:=.int m) (kind:=pL (ns.getD a 0) 5) h1 h6 hs _ (qG zl (by decide)) hM
  -- the heap of the first name alone,where there is none
  let He:=if ps.length=0 then kW ps [0] 1 else ps
  have NZ:Ci c He:=by
    show Ci c (if ps.length=0 then kW ps [0] 1 else ps);split
    · exact hP.put ⟨List.pairwise_singleton _ _,fun n hn=>by have:n=0:=by simpa using hn
                                                             omega⟩ (Int.le_refl 1)
    ·exact hP
  have hN':He≠[]:=by
    show(if ps.length=0 then kW ps [0] 1 else ps)≠[];split
    ·rename_i e0;have:ps=[]:=List.eq_nil_of_length_eq_zero e0;subst this;simp[kW]
    ·rename_i e0;intro e;rw[e] at e0;exact e0 rfl
  have hL':He.length≤63:=by show(if ps.length=0 then kW ps [0] 1 else ps).length≤63;have:=BR ps [0] 1;split<;>omega
  have hS':ak He≤((m:Nat):Int)*10^30+1:=by
    have h1:ak ps≤((m:Nat):Int)*10^30:=Int.le_trans XT (Int.mul_le_mul_of_nonneg_right (Int.ofNat_le.mpr zm) (by decide));show ak (if ps.length=0 then kW ps [0] 1 else ps)≤_;split
    ·rename_i e0;have:ps=[]:=List.eq_nil_of_length_eq_zero e0;subst this;have e1:ak (kW [] [0] 1)=1:=rfl;have e2:ak []=0:=rfl;rw[e1];omega
    ·omega
  refine⟨lK He,dU ?_,Hd NZ hN' hL',He,NZ,rfl,hL',hS'⟩;have hs0:dA 11 [true,true,true,true] [D.lst (ns.map D.int),.int a,.int m,.int c]=[some (.sh (.lst (ns.map D.int))),some (.sh (.int a)),some (.sh (.int m)),some (.sh (.int c)),none,none,none,none,none,none,none]:=rfl;rw[hs0];unfold Fq;rw[aV (cB (d:=.int (pL (ns.getD a 0) 5)) (by simp[aG,ae,ax,eV,eC,Dx,z5]))];rw[aV (cB (d:=.int s) (by
    have XU:(30:Int).toNat=30:=rfl;have hm4:∀y,pH y 4=true:=fun y=>rfl;simp only[ai,eL,kA,ae,ax,eC,aQ,Qt hp,lP,lQ,dQ,fe,cC,gT,lC (hm4 _),Tc,XU];rw[bR (by decide)];exact es))]
  rw[aV (show Dd 6 _=some (.nx _) from rfl)];rw[aV (by
    refine(tq (ds:=_) ?_).trans e4;simp only[ia,eL,lB,eV,nZ,ai,aQ,eC,lP,lQ,dQ,fe,cC,qj,gT,fu,MB])]
  rw[aV (η':=[some (.sh (.lst (ns.map D.int))),some (.sh (.int a)),some (.sh (.int m)),some (.sh (.int c)),some (.sh (.int (pL (ns.getD a 0) 5))),some (.sh (.int s)),some (.ot (He.map enc)),o7,none,o9,Fy]) (by
    have hk:GK (.tup [.int 0])=some (([0]:bD).map Sum.inl):=rfl;have QO:putD (ps.map enc) (([0]:bD).map Sum.inl) (.int 1)=(kW ps [0] 1).map enc:=BQ ps [0] 1;have hl:ps.length<10000:=by omega
    show _=some (Out.nx [_,_,_,_,_,_,some (.ot ((if ps.length=0 then kW ps [0] 1 else ps).map enc)),_,_,_,_]);by_cases e0:ps.length=0
    ·rw[n5 (by simp[cg,ai,v5,dT,eC,jC,e0]),bR e0];simp[tm,eC,gA,ae,ax,hk,hl];exact QO
    ·rw[kG (by simp[cg,ai,v5,dT,eC,jC];simpa using e0),bS e0];rfl)]
  have NX:=Fz NZ;have XW:(He.map tU).length<64:=by rw[dX];omega
  rw[aV (η':=[some (.sh (.lst (ns.map D.int))),some (.sh (.int a)),some (.sh (.int m)),some (.sh (.int c)),some (.sh (.int (pL (ns.getD a 0) 5))),some (.sh (.int s)),some (.ft (He.map enc)),o7,some (.sh (.lst ((mh (He.map tU)).map jX))),o9,Fy]) (by
    show dm 8 _ [_,_,_,_,_,_,some (.ft (He.map enc)),_,_,_,_]=_;rw[cB (d:=.lst ((mh (He.map tU)).map jX)) (by
      have hk:=QQ He (η:=[]);simp only[eL,zD,dg,zG,dQ,fe,cC,ky,mC,uv,List.replicate,hk,gT,vX,NX,XW,and_self,iq])]
    rfl)]
  refine j5 ?_;have ho:=T5 NZ;simp only[dg,ia,eV,dQ,fe,cC,fu,ky,gy,mC,yM];exact ho
theorem Dy{x:Int}(h0:0≤x)(h:x<2^n)(hn:1≤n):x.natAbs.log2<n:=by
  by_cases e:x=0
  ·subst e;have:(0:Int).natAbs.log2=0:=rfl;omega
  · have h1:x.natAbs≠0:=by omega
    refine(Nat.log2_lt h1).mpr ?_;have h2:((x.natAbs:Nat):Int)<((2^n:Nat):Int):=by rw[Int.natAbs_of_nonneg h0];simpa using h
    exact Int.ofNat_lt.mp h2
theorem Ku{a b:Int}(hb:0<b)(xD:b≤a):2*(a%b)<a:=by
  have h1:=Int.emod_lt_of_pos a hb;have h2:=Int.emod_nonneg a (show b≠0 by omega);have h3:=Int.mul_ediv_add_emod a b;have h4:1≤a / b:=by rw[Int.le_ediv_iff_mul_le hb];omega
  have h5:b≤b*(a / b):=by have:=Int.mul_le_mul_of_nonneg_left h4 (show 0≤b by omega);omega
  omega
def Dz:Nat→Int→Int→Option Int
  |0,_,_=>none
  |n+1,a,b=>if 0<b then Dz n b (a%b) else some a
theorem BU{a b:Int}(ha:0≤a)(hb:0≤b):Int.gcd a b=Int.gcd b (a%b):=by
  obtain⟨x,rfl⟩:∃x:Nat,a=(x:Int):=⟨a.toNat,by omega⟩
  obtain⟨y,rfl⟩:∃y:Nat,b=(y:Int):=⟨b.toNat,by omega⟩
  have e:(x:Int)%(y:Int)=((x%y:Nat):Int):=by omega
  rw[e];show Nat.gcd x y=Nat.gcd y (x%y);rw[Nat.gcd_comm x y,Nat.gcd_rec y x,Nat.gcd_comm]
theorem FC:∀(k:Nat) (a b:Int),0≤a→0≤b→b<2^k→∀n,2*k+1≤n→Dz n a b=some ((Int.gcd a b:Nat):Int)
  |0,a,b,ha,hb,hk,n,hn=>by
   have:b=0:=by have:(2:Int)^0=1:=rfl;omega
   subst this;obtain⟨m,rfl⟩:∃m,n=m+1:=⟨n-1,by omega⟩
   unfold Dz;rw[bS (by decide),Int.gcd_zero_right,Int.natAbs_of_nonneg ha]
  |k+1,a,b,ha,hb,hk,n,hn=>by
   obtain⟨m,rfl⟩:∃m,n=m+1:=⟨n-1,by omega⟩
   unfold Dz;by_cases h0:0<b
   · rw[bR h0];obtain⟨m',rfl⟩:∃m',m=m'+1:=⟨m-1,by omega⟩
     unfold Dz;have r0:=Int.emod_nonneg a (show b≠0 by omega);have rb:=Int.emod_lt_of_pos a h0;have e1:=BU ha hb;by_cases h1:0<a%b
     · rw[bR h1];have s0:=Int.emod_nonneg b (show a%b≠0 by omega);have hh:=Ku h1 (by omega:a%b≤b);have hp:(2:Int)^(k+1)=2*2^k:=by rw[Int.pow_succ];omega
       have ih:=FC k (a%b) (b%(a%b)) r0 s0 (by omega) m' (by omega);rw[ih,e1,BU hb r0]
     · rw[bS h1];have:a%b=0:=by omega
       rw[e1,this,Int.gcd_zero_right,Int.natAbs_of_nonneg hb]
   · rw[bS h0];have:b=0:=by omega
     subst this;rw[Int.gcd_zero_right,Int.natAbs_of_nonneg ha]
theorem Oo:∀(n:Nat) (a b:Int) (o:fU) (x:Int),Dz n a b=some x→∃c o',iW eP eO n [some (.sh (.int a)),some (.sh (.int b)),o]=some (.nx [some (.sh (.int x)),some (.sh (.int c)),o'])
  |0,a,b,o,x,h=>by cases h
  |n+1,a,b,o,x,h=>by
   unfold Dz at h;unfold iW;by_cases h0:0<b
   · rw[bR h0] at h;obtain⟨c,o',ih⟩:=Oo n b (a%b) (some (.sh (.int (a%b)))) x h;have hm:pH a b=true:=Qv h0;refine⟨c,o',?_⟩;simp only[eP,cg,ai,aQ,eC,dQ,fe,cC,EY,km h0,iq];have hb:eO [some (.sh (.int a)),some (.sh (.int b)),o]=some (.nx [some (.sh (.int b)),some (.sh (.int (a%b))),some (.sh (.int (a%b)))]):=by
       unfold eO;refine(aV (cB (d:=.int (a%b)) ?_)).trans ?_
       ·simp only[ai,aQ,dQ,fe,cC,lC hm]
       refine(aV (cB (d:=.int b) rfl)).trans ?_;exact cB (d:=.int (a%b)) rfl
     rw[hb];exact ih
   ·rw[bS h0] at h;cases h;refine⟨b,o,?_⟩;simp only[eP,cg,ai,aQ,eC,dQ,fe,cC,EY,mB h0];rfl
theorem T6{a b:Int}(ha:0≤a)(hb:0≤b)(hk:b<2^8000):dP [.int a,.int b]=some (.sh (.int ((Int.gcd a b:Nat):Int))):=by obtain⟨c,o',h⟩:=Oo 20000 a b none _ (FC 8000 a b ha hb hk 20000 (by decide));refine dU ?_;show iA [some (.sh (.int a)),some (.sh (.int b)),none]=_;unfold iA;refine(aV (show qf 20000 _ _ _=some (.nx _) from h)).trans ?_;rfl
def jy(r:Rat):D:=.tup [.int r.num,.int (r.den:Int)]
theorem DC{a b:Int}(hb:0<b):a / ((Int.gcd a b:Nat):Int)=(Rat.divInt a b).num∧b / ((Int.gcd a b:Nat):Int)=((Rat.divInt a b).den:Int):=by
  constructor
  ·rw[Rat.num_divInt,Int.sign_eq_one_of_pos hb,Int.one_mul,Int.gcd_comm]
  · rw[Rat.den_divInt,bS (by omega),Int.gcd_comm];obtain⟨y,rfl⟩:∃y:Nat,b=(y:Int):=⟨b.toNat,by omega⟩
    rw[Int.natAbs_natCast,Int.natCast_ediv]
theorem Nb{a b:Int}(hb:0<b):0<((Int.gcd a b:Nat):Int):=by
  have:Int.gcd a b≠0:=fun e=>by have:=(Int.gcd_eq_zero_iff.mp e).2;omega
  omega
theorem QR{a b:Int}(hb:0<b):((Int.gcd a b:Nat):Int)≤b:=Int.le_of_dvd hb (Int.gcd_dvd_right ..)
theorem T7{a b:Int}(h:yp a b=true):Bw (.int a) (.int b)=some (.int (a / b)):=by unfold Bw iI;simp only[h,iq]
theorem wF{a b:Int}(h:yo a b=true):n8 (.int a) (.int b)=some (.int (a*b)):=by unfold n8 iI;simp only[h,iq]
theorem BV{a b:Int}(ha:0≤a)(hb:0<b)(hk:b<2^8000):iB [.int a,.int b]=some (.sh (jy (Rat.divInt a b))):=by
  have hg:=T6 ha (kU hb) hk;obtain⟨e1,e2⟩:=DC (a:=a) hb;have g0:=Nb (a:=a) hb;have g1:=QR (a:=a) hb;have hc:∀y,yp y ((Int.gcd a b:Nat):Int)=true:=fun y=>by unfold yp;refine km ⟨g0,?_⟩;have:=Dy (n:=8000) (kU g0) (sG g1 hk) (by decide);omega
  refine dU ?_;show qo [some (.sh (.int a)),some (.sh (.int b)),none]=_;unfold qo;refine(aV (cB (d:=.int ((Int.gcd a b:Nat):Int)) ?_)).trans ?_
  ·simp only[aG,ae,ax,eV,dQ,fe,cC,gT,hg]
  refine jR ?_;simp only[gA,ae,ax,ai,aQ,lP,lQ,dQ,fe,cC,gT,T7 (hc _),e1,e2];rfl
theorem mZ{i:Int}(hi:0≤i)(hj:0≤j)(P5:i<2^9000)(W9:j<2^9000):yo i j=true:=by unfold yo;have h1:=Dy hi P5 (by decide);have h2:=Dy hj W9 (by decide);exact km ⟨by omega,by omega⟩
theorem d6{a b:Nat}(h:a≤b):(2:Int)^a≤2^b:=by
  have:=Nat.pow_le_pow_right (n:=2) (by decide) h;have e:∀n:Nat,(2:Int)^n=((2^n:Nat):Int):=fun n=>by simp
  rw[e,e];exact Int.ofNat_le.mpr this
theorem iF{x y:Int}{a b:Nat}(hx:0≤x)(hy:0≤y)(h1:x<2^a)(h2:y<2^b):x*y<2^(a+b):=by rw[Int.pow_add];have p1:(0:Int)<2^a:=sG hx h1;have p2:(0:Int)<2^b:=sG hy h2;have:=Int.mul_le_mul_of_nonneg_right (kU h1) hy;have:=Int.mul_lt_mul_of_pos_left h2 p1;omega
theorem den_pos(r:Rat):(0:Int)<(r.den:Int):=by have:=r.den_nz;omega
theorem wG(m:Int)(y:Rat):Rat.divInt (m*y.num) y.den=(m:Rat)*y:=by
  have h:=den_pos y;have e:y=Rat.divInt y.num y.den:=(Rat.num_divInt_den y).symm;have e2:(m:Rat)=Rat.divInt m 1:=by have:=Rat.num_divInt_den (m:Rat);rw[Rat.num_intCast,Rat.den_intCast] at this;exact this.symm
  conv=>rhs;rw[e,e2,Rat.divInt_mul_divInt]
  rw[Int.one_mul]
theorem DF(x y:Rat)(m:Int):Rat.divInt (x.num*(y.den:Int)+m*y.num*(x.den:Int)) ((x.den:Int)*(y.den:Int))=x+(m:Rat)*y:=by
  rw[←wG m y]
  conv=>rhs;rw[←Rat.num_divInt_den x]
  rw[Rat.divInt_add_divInt _ _ (by have:=den_pos x;omega) (by have:=den_pos y;omega)]
theorem Nc{x y:Rat}{m:Int}(hm:0≤m)(hx0:0≤x.num)(hy0:0≤y.num)(Xk:x.num<2^3900)(XX:(x.den:Int)<2^3900)(hy1:m*y.num<2^3900)(XY:(y.den:Int)<2^3900):jt [jy x,.tup [.int (m*y.num),.int (y.den:Int)]]=some (.sh (jy (x+(m:Rat)*y))):=by
  have dx:=den_pos x;have dy:=den_pos y;have hmy:0≤m*y.num:=Int.mul_nonneg hm hy0;have big:∀{z:Int},z<2^3900→z<2^9000:=fun h=>nz h (d6 (by decide));have m1:=mZ hx0 (kU dy) (big Xk) (big XY);have m2:=mZ hmy (kU dx) (big hy1) (big XX);have m3:=mZ (kU dx) (kU dy) (big XX) (big XY);have hl:=BV (a:=x.num*(y.den:Int)+m*y.num*(x.den:Int)) (b:=(x.den:Int)*(y.den:Int)) (by
    have a1:=Int.mul_nonneg hx0 (kU dy);have a2:=Int.mul_nonneg hmy (kU dx);omega) (Int.mul_pos dx dy) (nz (iF (kU dx) (kU dy) XX XY) (d6 (by decide)))
  rw[DF] at hl;refine dU ?_;show tJ [some (.sh (jy x)),some (.sh (.tup [.int (m*y.num),.int (y.den:Int)]))]=_;unfold tJ;refine jR ?_;have a0:pE [D.int x.num,.int (x.den:Int)] 0=some (.int x.num):=rfl;have a1:pE [D.int x.num,.int (x.den:Int)] 1=some (.int (x.den:Int)):=rfl;have b0:pE [D.int (m*y.num),.int (y.den:Int)] 0=some (.int (m*y.num)):=rfl;have b1:pE [D.int (m*y.num),.int (y.den:Int)] 1=some (.int (y.den:Int)):=rfl;simp only[aG,ae,ax,ai,aQ,eC,jy,MA,a0,a1,b0,b1,dQ,fe,cC,gT,wF m1,wF m2,wF m3,qj];simp only[hl,jy,cC]
def bM:Option Rat→Option Rat→Bool
  |none,_=>false
  |some _,none=>true
  |some x,some y=>decide (x<y)
def bz:Option Rat→D
  |none=>.non
  |some r=>jy r
def Bd(r:Rat):Prop:=0≤r.num∧r.num<2^3900∧(r.den:Int)<2^3900
def Vu:Option Rat→Prop
  |none=>True
  |some r=>Bd r
theorem QS{x y:Rat}(hx:Bd x)(hy:Bd y):oq [jy x,jy y]=some (.sh (.bl (decide (x<y)))):=by obtain⟨x0,x1,x2⟩:=hx;obtain⟨y0,y1,y2⟩:=hy;have dx:=den_pos x;have dy:=den_pos y;have big:∀{z:Int},z<2^3900→z<2^9000:=fun h=>nz h (d6 (by decide));have m1:=mZ x0 (kU dy) (big x1) (big y2);have m2:=mZ y0 (kU dx) (big y1) (big x2);refine dU ?_;show wm [some (.sh (jy x)),some (.sh (jy y))]=_;unfold wm;refine jR ?_;have a0:pE [D.int x.num,.int (x.den:Int)] 0=some (.int x.num):=rfl;have a1:pE [D.int x.num,.int (x.den:Int)] 1=some (.int (x.den:Int)):=rfl;have b0:pE [D.int y.num,.int (y.den:Int)] 0=some (.int y.num):=rfl;have b1:pE [D.int y.num,.int (y.den:Int)] 1=some (.int (y.den:Int)):=rfl;simp only[ai,aQ,eC,jy,MA,a0,a1,b0,b1,dQ,fe,cC,wF m1,wF m2,yn,←Rat.lt_iff]
theorem Nf{x y:Option Rat}(hx:Vu x)(hy:Vu y):er [bz x,bz y]=some (.sh (.bl (bM x y))):=by
  refine dU ?_;show jT [some (.sh (bz x)),some (.sh (bz y))]=_;unfold jT;cases x with
  |none=>exact mQ ((n5 rfl).trans rfl)
  |some x =>
   cases y with
   |none=>exact mQ ((n5 rfl).trans rfl)
   |some y=>refine(aV ((kG rfl).trans rfl)).trans ?_;refine jR ?_;simp only[aG,ae,ax,eV,bz,dQ,fe,cC,gT,QS hx hy,bM]
def bX(r:Int×Option Rat):D:=.tup [.int r.1,bz r.2]
def eR(names:bD)(rows:pW):Option Rat:=rows.foldl (fun x r=>if names.contains r.1=true then r.2 else x) (some 0)
theorem tV(x:Option Rat):(bz x).xm=true:=by
  cases x with
  |none=>rfl
  |some r=>unfold bz jy;rw[qT,pX,oQ,pX,oQ];rfl
theorem Oq(names:bD)(rows:pW):cz [.tup (names.map D.int),.lst (rows.map bX)]=some (.sh (bz (eR names rows))):=by
  refine dU ?_;show ju [some (.sh (.tup (names.map D.int))),some (.br (.lst (rows.map bX))),none,none,none]=_;unfold ju;have e0:bz (some 0)=.tup [.int 0,.int 1]:=rfl;refine(aV (cB (d:=bz (some 0)) rfl)).trans ?_;obtain⟨η',e,o3,o4,rfl⟩:=tu (b:=nC 2 (df (aZ false 3) (df (aZ false 4) nA))) (g:=iD) bX (fun(x:Option Rat) η=>∃o3 o4,η=[some (.sh (.tup (names.map D.int))),some (.br (.lst (rows.map bX))),some (.sh (bz x)),o3,o4])
    (fun x r=>if names.contains r.1=true then r.2 else x) (xs:=rows) (η:=[some (.sh (.tup (names.map D.int))),some (.br (.lst (rows.map bX))),some (.sh (bz (some 0))),none,none]) (some 0) ⟨none,none,rfl⟩ (fun r _ x η ⟨o3,o4,e⟩=>by
      subst e;refine⟨[some (.sh (.tup (names.map D.int))),some (.br (.lst (rows.map bX))),some (.sh (bz x)),some (.br (.int r.1)),some (.br (bz r.2))],[some (.sh (.tup (names.map D.int))),some (.br (.lst (rows.map bX))),some (.sh (bz (if names.contains r.1=true then r.2 else x))),some (.br (.int r.1)),some (.br (bz r.2))],rfl,?_,_,_,rfl⟩;unfold iD;have q:=rE (n:=r.1) (S:=.tup (names.map D.int)) (ms:=names) rfl;cases hc:names.contains r.1 with
      |true =>
       rw[hc] at q;refine(n5 ?_).trans ?_
       ·simp only[cg,ai,aQ,dQ,fe,cC,q]
       ·refine(cB (d:=bz r.2) ?_).trans rfl;simp only[eV,dQ,fe,tV,iq]
      |false =>
       rw[hc] at q;refine(kG ?_).trans rfl;simp only[cg,ai,aQ,dQ,fe,cC,q])
  refine(aV ((tq (ds:=rows.map bX) rfl).trans e)).trans ?_;rfl
def aS(hs:ip)(n:Int):ip:=hs.filter fun h=>h.1.contains n
theorem cW(h:bD×Int)(l:ip):ak (h::l)=h.2+ak l:=by unfold ak;rw[gy,List.sum_cons]
theorem T8(hs:ip)(n:Int):bW [.lst (hs.map aK),.int n]=some (.sh (.int (ak (aS hs n)))):=by
  refine dU ?_;show iC [some (.sh (.lst (hs.map aK))),some (.sh (.int n))]=_;unfold iC;refine jR ?_;have q:fA (nC 2 (df (aZ true 0) (df (aZ true 1) nA))) (cg (ai (inD false) (aQ 2) (aQ 0))) (eV 1) (hs.map aK) (List.replicate 2 none++[some (.sh (.int n))])=some (((aS hs n).map fun r=>r.2).map D.int):=by
    have e:((aS hs n).map fun r=>r.2).map D.int=(hs.filter fun h=>h.1.contains n).map fun h=>D.int h.2:=by unfold aS;rw[ko];rfl
    rw[e];refine iL aK (fun h=>h.1.contains n) (fun h=>D.int h.2) fun h _=>⟨[some (.sh (.tup (h.1.map D.int))),some (.sh (.int h.2)),some (.sh (.int n))],rfl,?_,fun _=>rfl⟩
    have q:=rE (n:=n) (S:=.tup (h.1.map D.int)) (ms:=h.1) rfl;simp only[cg,ai,aQ,dQ,fe,cC,q]
  simp only[sF,ae,ax,eL,dg,ia,eV,dQ,fe,cC,gT,fu,ky,gy,mC,yM];rw[q];simp only[cC,gT,Gv,iK,ak]
def gx(P:Int)(t:Rat):Prop:=∃z:Int,(P:Rat)*t=(z:Rat)
theorem gx.add{P:Int}{s t:Rat}(h:gx P s)(h':gx P t):gx P (s+t):=by obtain⟨a,ha⟩:=h;obtain⟨b,hb⟩:=h';exact⟨a+b,by rw[Rat.mul_add,ha,hb,Rat.intCast_add]⟩
theorem gx.mul{P:Int}{t:Rat}(m:Int)(h:gx P t):gx P ((m:Rat)*t):=by obtain⟨a,ha⟩:=h;exact⟨m*a,by rw[←Rat.mul_assoc,Rat.mul_comm (P:Rat) m,Rat.mul_assoc,ha,yO]⟩
theorem gx.one(P:Int):gx P 1:=⟨P,by rw[Rat.mul_one]⟩
theorem gx.den{P:Int}(hP:0<P){t:Rat}(h:gx P t):(t.den:Int)≤P:=by
  obtain⟨z,hz⟩:=h;have NZ:(P:Rat)≠0:=fun e=>by have:=Rat.intCast_eq_zero_iff.mp e;omega
  have e:t=Rat.divInt z P:=by have h1:=wG 1 t;rw[Rat.divInt_eq_div,←hz];grind
  rw[e,Rat.den_divInt,bS (by omega)];have h2:P.natAbs / P.gcd z≤P.natAbs:=Nat.div_le_self _ _;have h3:((P.natAbs:Nat):Int)=P:=Int.natAbs_of_nonneg (by omega);have h4:((P.natAbs / P.gcd z:Nat):Int)≤((P.natAbs:Nat):Int):=Int.ofNat_le.mpr h2;omega
theorem DH{t:Rat}{T:Int}(h:t≤(T:Rat)):t.num≤T*(t.den:Int):=by have:=(Rat.le_iff t (T:Rat)).mp h;rw[Rat.num_intCast,Rat.den_intCast] at this;simpa using this
theorem Kv{t:Rat}(h:0≤t):0≤t.num:=Rat.num_nonneg.mpr h
theorem Kw{P T:Int}{t:Rat}(hP:0<P)(P7:P<2^3300)(hT:0≤T)(XZ:T<2^200)(h:gx P t)(h0:0≤t)(h1:t≤(T:Rat)):Bd t:=by have hd:=h.den hP;have dp:=den_pos t;have hn:=DH h1;refine⟨Kv h0,?_,sG hd (nz P7 (d6 (by decide)))⟩;have h2:T*(t.den:Int)<2^(200+3300):=iF hT (kU dp) XZ (sG hd P7);exact sG hn (nz h2 (d6 (by decide)))
structure pk (hs:ip) (rows:pW) (P:Int):Prop where
  pos:0<P
  lt:P<2^3300
  heap:∀h∈hs,∃x,eR h.1 rows=some x∧gx P x∧0≤x∧x≤6
def xh(rows:pW)(h:bD×Int):Rat:=(eR h.1 rows).getD 0
def nD(rows:pW)(l:ip)(t:Rat):Rat:=l.foldl (fun t h=>t+(h.2:Rat)*xh rows h) t
theorem z7{hs:ip}{rows:pW}{P:Int}(ok:pk hs rows P):∀{l:ip},(∀h∈l,h∈hs∧1≤h.2)→∀{t:Rat} {T:Int},gx P t→0≤t→t≤(T:Rat)→gx P (nD rows l t)∧0≤nD rows l t∧nD rows l t≤((T+6*ak l:Int):Rat)
  |[],_,t,T,h1,h2,h3=>⟨h1,h2,by show t≤_;simpa[ak] using h3⟩
  |h::l,hl,t,T,h1,h2,h3=>by
   obtain⟨hm,h5⟩:=hl h hI;obtain⟨x,e,w,x0,x6⟩:=ok.heap h hm;have ex:xh rows h=x:=by unfold xh;rw[e];rfl
   have Ng:(0:Rat)≤(h.2:Rat):=by have:=Cj.mpr (show(0:Int)≤h.2 by omega);simpa using this
   have p1:0≤(h.2:Rat)*x:=Rat.mul_nonneg Ng x0;have p2:(h.2:Rat)*x≤(h.2:Rat)*6:=Rat.mul_le_mul_of_nonneg_left x6 Ng;have ih:=z7 ok (l:=l) (fun y hy=>hl y (h9 _ hy)) (t:=t+(h.2:Rat)*x) (T:=T+6*h.2) (h1.add (w.mul h.2)) (by grind) (by
     rw[Rat.intCast_add,yO];have:((6:Int):Rat)=6:=rfl;grind)
   have e2:nD rows (h::l) t=nD rows l (t+(h.2:Rat)*x):=by show nD rows l (t+(h.2:Rat)*xh rows h)=_;rw[ex]
   rw[e2];refine⟨ih.1,ih.2.1,?_⟩;have e3:T+6*h.2+6*ak l=T+6*ak (h::l):=by rw[cW];omega
   rw[←e3];exact ih.2.2
def dC(hs:ip)(rows:pW)(n:Int):Option Rat:=if ak (aS hs n)=0 then none else some (nD rows (aS hs n) 1 / (ak (aS hs n):Rat))
theorem uh(h:bD×Int)(l:ip)(n:Int):aS (h::l) n=if h.1.contains n=true then h::aS l n else aS l n:=by unfold aS;rw[List.filter_cons]
theorem m4{l:ip}(h:∀x∈l,1≤x.2):0≤ak l:=by
  induction l with
  |nil=>exact Int.le_refl _
  |cons x l ih=>have:=h x hI;have:=ih fun y hy=>h y (h9 _ hy);rw[cW];omega
theorem yF{l:ip}(h:∀x∈l,1≤x.2)(n:Int):ak (aS l n)≤ak l:=by
  induction l with
  |nil=>exact Int.le_refl _
  |cons x l ih =>
   have:=h x hI;have:=ih fun y hy=>h y (h9 _ hy);rw[uh];split
   ·rw[cW,cW];omega
   ·rw[cW];omega
theorem wH{hs:ip}{rows:pW}{P:Int}(ok:pk hs rows P)(n:Int)(A:D)(o3:fU):∀(l:ip),(∀h∈l,h∈hs∧1≤h.2)→∀(t:Rat) (T:Int),gx P t→0≤t→t≤(T:Rat)→0≤T→T+6*ak l<2^190→(∀h∈l,h.2<2^190)→∀(o5 o6 o7:fU),∃X1 X2 o7',jm (nC 2 (df (aZ true 5) (df (aZ true 6) nA))) cS (l.map aK) [some (.sh A),some (.br (.lst (rows.map bX))),some (.sh (.int n)),o3,some (.sh (jy t)),o5,o6,o7]=some (.nx [some (.sh A),some (.br (.lst (rows.map bX))),some (.sh (.int n)),o3,some (.sh (jy (nD rows (aS l n) t))),X1,X2,o7'])
  |[],_,t,T,_,_,_,_,_,_,o5,o6,o7=>⟨o5,o6,o7,rfl⟩
  |h::l,hl,t,T,h1,h2,h3,hT,hB,hM,o5,o6,o7=>by
   obtain⟨hm,h5⟩:=hl h hI;have EJ:∀y∈l,y∈hs∧1≤y.2:=fun y hy=>hl y (h9 _ hy);have hM':∀y∈l,y.2<2^190:=fun y hy=>hM y (h9 _ hy);have sn:=m4 (l:=l) fun y hy=>(EJ y hy).2;rw[cW] at hB;rw[gy];unfold jm;have rG:nC 2 (df (aZ true 5) (df (aZ true 6) nA)) (aK h) [some (.sh A),some (.br (.lst (rows.map bX))),some (.sh (.int n)),o3,some (.sh (jy t)),o5,o6,o7]=some [some (.sh A),some (.br (.lst (rows.map bX))),some (.sh (.int n)),o3,some (.sh (jy t)),some (.sh (.tup (h.1.map D.int))),some (.sh (.int h.2)),o7]:=rfl;rw[rG];have q:=rE (n:=n) (S:=.tup (h.1.map D.int)) (ms:=h.1) rfl;rw[uh];cases hc:h.1.contains n with
   |false =>
    rw[hc] at q;obtain⟨a,b,c,e⟩:=wH ok n A o3 l EJ t T h1 h2 h3 hT (by omega) hM' (some (.sh (.tup (h.1.map D.int)))) (some (.sh (.int h.2))) o7;refine⟨a,b,c,?_⟩;have hg:cS [some (.sh A),some (.br (.lst (rows.map bX))),some (.sh (.int n)),o3,some (.sh (jy t)),some (.sh (.tup (h.1.map D.int))),some (.sh (.int h.2)),o7]=some (.nx [some (.sh A),some (.br (.lst (rows.map bX))),some (.sh (.int n)),o3,some (.sh (jy t)),some (.sh (.tup (h.1.map D.int))),some (.sh (.int h.2)),o7]):=by unfold cS;refine(kG ?_).trans rfl;simp only[cg,ai,aQ,dQ,fe,cC,q]
    simp only[cC,hg];rw[bS (by decide)];exact e
   |true =>
    rw[hc] at q;obtain⟨x,ex,w,x0,x6⟩:=ok.heap h hm;have exh:xh rows h=x:=by unfold xh;rw[ex];rfl
    have Ng:(0:Rat)≤(h.2:Rat):=by have:=Cj.mpr (show(0:Int)≤h.2 by omega);simpa using this
    have p1:0≤(h.2:Rat)*x:=Rat.mul_nonneg Ng x0;have p2:(h.2:Rat)*x≤(h.2:Rat)*6:=Rat.mul_le_mul_of_nonneg_left x6 Ng;have hT':T<2^200:=nz (show T<2^190 by omega) (d6 (by decide));have bt:=Kw ok.pos ok.lt hT hT' h1 h2 h3;have bx:=Kw (T:=6) ok.pos ok.lt (by decide) (nz (show(6:Int)<2^3 by decide) (d6 (by decide))) w x0 x6;have xd:=w.den ok.pos;have hxn:x.num≤6*(x.den:Int):=DH x6;have dp:=den_pos x;have X3:x.num<2^(3+3300):=sG hxn (iF (by decide) (kU dp) (by decide) (sG xd ok.lt));have hmx:h.2*x.num<2^(190+3303):=iF (by omega) bx.1 (hM h hI) X3;have X4:h.2*x.num<2^3900:=nz hmx (d6 (by decide));have had:=Nc (x:=t) (y:=x) (m:=h.2) (by omega) bt.1 bx.1 bt.2.1 bt.2.2 X4 bx.2.2;have WX:=Oq h.1 rows;rw[ex] at WX;have X5:=mZ (i:=h.2) (j:=x.num) (by omega) bx.1 (nz (hM h hI) (d6 (by decide))) (nz bx.2.1 (d6 (by decide)));obtain⟨a,b,c,e⟩:=wH ok n A o3 l EJ (t+(h.2:Rat)*x) (T+6*h.2) (h1.add (w.mul h.2)) (by grind) (by
      rw[Rat.intCast_add,yO];have:((6:Int):Rat)=6:=rfl;grind) (by omega) (by omega) hM' (some (.sh (.tup (h.1.map D.int)))) (some (.sh (.int h.2))) (some (.sh (bz (some x))))
    refine⟨a,b,c,?_⟩;have a0:pE [D.int x.num,.int (x.den:Int)] 0=some (.int x.num):=rfl;have a1:pE [D.int x.num,.int (x.den:Int)] 1=some (.int (x.den:Int)):=rfl;have hg:cS [some (.sh A),some (.br (.lst (rows.map bX))),some (.sh (.int n)),o3,some (.sh (jy t)),some (.sh (.tup (h.1.map D.int))),some (.sh (.int h.2)),o7]=some (.nx [some (.sh A),some (.br (.lst (rows.map bX))),some (.sh (.int n)),o3,some (.sh (jy (t+(h.2:Rat)*x))),some (.sh (.tup (h.1.map D.int))),some (.sh (.int h.2)),some (.sh (bz (some x)))]):=by
      unfold cS;refine(n5 ?_).trans ?_
      ·simp only[cg,ai,aQ,dQ,fe,cC,q]
      refine(aV (cB (d:=bz (some x)) ?_)).trans ?_
      ·simp only[aG,ae,ax,eV,aQ,dQ,fe,cC,gT,WX]
      refine(cB (d:=jy (t+(h.2:Rat)*x)) ?_).trans rfl;have et:gA (ae (ai n8 (aQ 6) (ai jd (aQ 7) (eC (.int 0)))) (ae (ai jd (eV 7) (eC (.int 1))) ax)) [some (.sh A),some (.br (.lst (rows.map bX))),some (.sh (.int n)),o3,some (.sh (jy t)),some (.sh (.tup (h.1.map D.int))),some (.sh (.int h.2)),some (.sh (bz (some x)))]=some (.tup [.int (h.2*x.num),.int (x.den:Int)]):=by simp only[gA,ae,ax,ai,aQ,eV,eC,bz,jy,MA,a0,a1,dQ,fe,cC,gT,wF X5];rfl
      have key:∀{f g:EF} {η:cD} {u v d:D},f η=some u→g η=some v→jt [u,v]=some (.sh d)→aG jt (ae f (ae g ax)) η=some d:=fun k1 k2 k3=>by simp only[aG,ae,ax,k1,k2,cC,gT,k3]
      exact key (f:=eV 4) rfl et had
    simp only[cC,hg];rw[bR trivial];have e2:nD rows (h::aS l n) t=nD rows (aS l n) (t+(h.2:Rat)*x):=by show nD rows (aS l n) (t+(h.2:Rat)*xh rows h)=_;rw[exh]
    rw[e2];exact e
theorem T9{P:Int}(ok:pk hs rows P)(hh:∀h∈hs,1≤h.2)(hS:ak hs<2^110)(n:Int):fI [.lst (hs.map aK),.lst (rows.map bX),.int n]=some (.sh (bz (dC hs rows n))):=by
  have sn:=m4 hh;have nn:=yF hh n;have Ua:=m4 (l:=aS hs n) fun x hx=>hh x (j3.mp hx).1;have hM:∀h∈hs,h.2<2^190:=fun h hm=>by
    have key:∀{l:ip},(∀x∈l,1≤x.2)→h∈l→h.2≤ak l:=by
      intro l;induction l with
      |nil=>intro _ z;nomatch z
      |cons y l ih =>
       intro hy z;have h0:=m4 (l:=l) fun x hx=>hy x (h9 _ hx);have h1:=hy y hI;rw[cW];rcases gB.mp z with rfl|z
       ·omega
       ·have:=ih (fun x hx=>hy x (h9 _ hx)) z;omega
    exact sG (key hh hm) (nz hS (d6 (by decide)))
  have hT:(1:Int)+6*ak hs<2^190:=by
    have h1:(6:Int)*ak hs<2^(3+110):=iF (by decide) sn (by decide) hS;have h2:(2:Int)^113+1≤2^190:=by decide
    have e:(3+110:Nat)=113:=rfl;rw[e] at h1;omega
  refine dU ?_;show jv [some (.sh (.lst (hs.map aK))),some (.br (.lst (rows.map bX))),some (.sh (.int n)),none,none,none,none,none]=_;unfold jv;refine(aV (cB (d:=.int (ak (aS hs n))) ?_)).trans ?_
  ·simp only[aG,ae,ax,eV,dQ,fe,cC,gT,T8]
  simp only[lP,lQ];unfold dC;by_cases h0:ak (aS hs n)=0
  ·rw[bR h0];refine mQ ((n5 ?_).trans rfl);simp[cg,ai,aQ,eC,jC,h0]
  rw[bS h0];refine(aV ((kG ?_).trans rfl)).trans ?_
  ·simp[cg,ai,aQ,eC,jC,h0]
  refine(aV (cB (d:=jy 1) rfl)).trans ?_;simp only[lP,lQ];obtain⟨o5,o6,o7,e⟩:=wH ok n (.lst (hs.map aK)) (some (.sh (.int (ak (aS hs n))))) hs (fun h hm=>⟨hm,hh h hm⟩) 1 1 (gx.one P) (by decide) (by decide) (by decide) hT hM none none none;refine(aV ((tq (ds:=hs.map aK) rfl).trans e)).trans ?_
  -- the last step
  obtain⟨w,t0,t1⟩:=z7 ok (l:=aS hs n) (fun h hm=>⟨(j3.mp hm).1,hh h (j3.mp hm).1⟩) (t:=1) (T:=1) (gx.one P) (by decide) (by decide);generalize nD rows (aS hs n) 1=t at w t0 t1;have hTT:(1:Int)+6*ak (aS hs n)<2^200:=nz (show(1:Int)+6*ak (aS hs n)<2^190 by omega) (d6 (by decide));have bt:=Kw ok.pos ok.lt (by omega) hTT w t0 t1;have dp:=den_pos t;have hN2:ak (aS hs n)<2^110:=by omega
  have X5:=mZ (i:=ak (aS hs n)) (j:=(t.den:Int)) Ua (kU dp) (nz hN2 (d6 (by decide))) (nz bt.2.2 (d6 (by decide)));have hl:=BV (a:=t.num) (b:=ak (aS hs n)*(t.den:Int)) bt.1 (Int.mul_pos (by omega) dp) (nz (iF Ua (kU dp) hN2 bt.2.2) (d6 (by decide)));have ed:Rat.divInt t.num (ak (aS hs n)*(t.den:Int))=t / (ak (aS hs n):Rat):=by
    have hN:(ak (aS hs n):Rat)≠0:=fun e=>h0 (Rat.intCast_eq_zero_iff.mp e);have hd:((t.den:Int):Rat)≠0:=fun e=>by have:=Rat.intCast_eq_zero_iff.mp e;omega
    have e1:t=((t.num:Int):Rat) / ((t.den:Int):Rat):=by rw[←Rat.divInt_eq_div,Rat.num_divInt_den]
    rw[Rat.divInt_eq_div,yO]
    conv=>rhs;rw[e1]
    grind
  rw[ed] at hl;refine jR ?_;have a0:pE [D.int t.num,.int (t.den:Int)] 0=some (.int t.num):=rfl;have a1:pE [D.int t.num,.int (t.den:Int)] 1=some (.int (t.den:Int)):=rfl;simp only[aG,ae,ax,ai,eV,aQ,eC,jy,MA,a0,a1,dQ,fe,cC,gT,wF X5,bz];simp only[hl,jy,cC]
theorem Nh(rows:pW):bC [.lst (rows.map bX)]=some (.ol ((rows.map fun r=>r.1).map D.int)):=by
  refine dU ?_;show fS [some (.br (.lst (rows.map bX)))]=_;unfold fS;refine j5 ?_;have q:fA (aZ false 0) iV (ai jd (eV 0) (eC (.int 0))) (rows.map bX) (List.replicate 1 none++[])=some ((rows.map fun r=>r.1).map D.int):=by
    rw[ko];refine gf bX _ fun r _=>⟨[some (.br (bX r))],rfl,rfl,?_⟩
    have Ub:(bX r).xm=true:=by unfold bX;rw[qT,pX,oQ,pX,tV];rfl
    have a0:jd (bX r) (.int 0)=some (.int r.1):=rfl;simp only[ai,eV,eC,dQ,Ub,iq,cC,a0,Function.comp]
  simp only[dg,CZ,dQ,cC,ky,mC,q]
def hV(c:Int)(rows:pW):bD:=((List.range c.toNat).map fun(i:Nat)=>(0:Int)+(i:Int)).filter fun n=>!(rows.map fun r=>r.1).contains n
theorem DJ(h0:0≤c)(h6:c≤6)(rows:pW):dB [.int c,.lst (rows.map bX)]=some (.ol ((hV c rows).map D.int)):=by
  refine dU ?_;show i9 [some (.sh (.int c)),some (.br (.lst (rows.map bX)))]=_;unfold i9;refine j5 ?_;have hr:(if c≤10000∧-10000≤c then some (cA 0 c.toNat) else none)=some ((((List.range c.toNat).map fun(i:Nat)=>(0:Int)+(i:Int))).map D.int):=by rw[bR ⟨by omega,by omega⟩,gK]
  have q:fA (aZ true 0) (cg (ai (inD true) (aQ 0) (aG bC (ae (aQ 1) ax)))) (eV 0) ((((List.range c.toNat).map fun(i:Nat)=>(0:Int)+(i:Int))).map D.int) (List.replicate 1 none++[some (.br (.lst (rows.map bX)))])=some ((hV c rows).map D.int):=by
    unfold hV;have key:=iL (b:=aZ true 0) (t:=cg (ai (inD true) (aQ 0) (aG bC (ae (aQ 1) ax)))) (f:=eV 0) (η:=List.replicate 1 none++[some (.br (.lst (rows.map bX)))]) (xs:=(List.range c.toNat).map fun(i:Nat)=>(0:Int)+(i:Int)) D.int (fun n=>!(rows.map fun r=>r.1).contains n) D.int;refine key fun n _=>⟨[some (.sh (.int n)),some (.br (.lst (rows.map bX)))],rfl,?_,fun _=>rfl⟩
    have q:=Bq (n:=n) (S:=.lst ((rows.map fun r=>r.1).map D.int)) (ms:=rows.map fun r=>r.1) rfl;simp only[cg,ai,aQ,aG,ae,ax,dQ,fe,cC,gT,Nh,q]
  simp only[dg,gq,aQ,dQ,fe,cC,hr,ky,gy,mC,yM,q]
def hG(f:Int→Option Rat)(best:Option (Int×Option Rat))(n:Int):Option (Int×Option Rat):=match best with
  |none=>some (n,f n)
  |some b=>if bM (f n) b.2=true then some (n,f n) else some b
def FD(f:Int→Option Rat)(l:bD):Option (Int×Option Rat):=l.foldl (hG f) none
def FE:Option (Int×Option Rat)→D
  |none=>.non
  |some b=>bX b
theorem BW(f:Int→Option Rat):∀(l:bD) (s:Option (Int×Option Rat)) {b:Int×Option Rat},(∀y,s=some y→y.2=f y.1)→l.foldl (hG f) s=some b→b.2=f b.1∧(s=some b∨b.1∈l)
  |[],s,b,hs,h=>⟨hs b h,.inl h⟩
  |n::l,s,b,hs,h=>by
   rw[List.foldl_cons] at h;have II:∀y,hG f s n=some y→y.2=f y.1:=fun y hy=>by
     unfold hG at hy;split at hy
     ·cases hy;rfl
     · split at hy
       ·cases hy;rfl
       ·cases hy;exact hs _ rfl
   obtain⟨h1,h2⟩:=BW f l (hG f s n) II h;refine⟨h1,?_⟩;rcases h2 with h2|h2
   · unfold hG at h2;split at h2
     ·cases h2;exact .inr (by simp)
     · split at h2
       ·cases h2;exact .inr (by simp)
       ·cases h2;exact .inl rfl
   ·exact .inr (by simp[h2])
theorem QT(h0:0≤c)(h6:c≤6){P:Int}(ok:pk hs rows P)(hh:∀h∈hs,1≤h.2)(hS:ak hs<2^110)(hB:∀n,Vu (dC hs rows n)):ig [.int c,.lst (hs.map aK),.lst (rows.map bX)]=some (.sh (FE (FD (dC hs rows) (hV c rows)))):=by
  refine dU ?_;show lG [some (.sh (.int c)),some (.sh (.lst (hs.map aK))),some (.br (.lst (rows.map bX))),none,none,none]=_;unfold lG;refine(aV (cB (d:=.non) rfl)).trans ?_
  let st (s:Option (Int×Option Rat)) (o4 o5:fU):cD:=[some (.sh (.int c)),some (.sh (.lst (hs.map aK))),some (.br (.lst (rows.map bX))),some (.sh (FE s)),o4,o5]
  obtain⟨η',e,o4,o5,hb,rfl⟩:=tu (b:=aZ true 4) (g:=jU) D.int (fun(s:Option (Int×Option Rat)) η=>∃o4 o5,(∀y,s=some y→y.2=dC hs rows y.1)∧η=st s o4 o5)
    (hG (dC hs rows)) (xs:=hV c rows) (η:=st none none none) none ⟨none,none,(fun _ z=>nomatch z),rfl⟩ (fun n _ s η ⟨o4,o5,hb,e⟩=>by
      subst e;refine⟨st s (some (.sh (.int n))) o5,st (hG (dC hs rows) s n) (some (.sh (.int n))) (some (.sh (bz (dC hs rows n)))),rfl,?_,_,_,?_,rfl⟩
      · unfold jU;have hl:=T9 ok hh hS n;refine(aV (η':=st s (some (.sh (.int n))) (some (.sh (bz (dC hs rows n))))) ((cB (d:=bz (dC hs rows n)) ?_).trans rfl)).trans ?_
        ·simp only[st,aG,ae,ax,eV,aQ,dQ,fe,cC,gT,hl]
        have Hc:dm 3 (gA (ae (eV 4) (ae (eV 5) ax))) (st s (some (.sh (.int n))) (some (.sh (bz (dC hs rows n)))))=some (.nx (st (some (n,dC hs rows n)) (some (.sh (.int n))) (some (.sh (bz (dC hs rows n)))))):=rfl;cases s with
        |none=>refine(n5 ?_).trans Hc;rfl
        |some b =>
         have ha:=Nf (x:=dC hs rows n) (y:=b.2) (hB n) (by rw[hb b rfl];exact hB _);have a1:jd (bX b) (.int 1)=some (bz b.2):=rfl;have ht:mK (cg (ai lY (aQ 3) (eC .non))) (cg (aG er (ae (eV 5) (ae (ai jd (eV 3) (eC (.int 1))) ax)))) (st (some b) (some (.sh (.int n))) (some (.sh (bz (dC hs rows n)))))=some (bM (dC hs rows n) b.2):=by have n0:lY (bX b) .non=some (.bl false):=rfl;simp only[st,FE,mK,cg,ai,aG,ae,ax,eV,aQ,eC,dQ,fe,cC,gT,n0,a1,ha];rfl
         cases hc:bM (dC hs rows n) b.2 with
         |true =>
          have es:hG (dC hs rows) (some b) n=some (n,dC hs rows n):=by show(if bM (dC hs rows n) b.2=true then some (n,dC hs rows n) else some b)=_;rw[bR hc]
          rw[es];rw[hc] at ht;exact(n5 ht).trans Hc
         |false =>
          have es:hG (dC hs rows) (some b) n=some b:=by show(if bM (dC hs rows n) b.2=true then some (n,dC hs rows n) else some b)=_;rw[bS (by rw[hc];decide)]
          rw[es];rw[hc] at ht;exact(kG ht).trans rfl
      · intro y hy;unfold hG at hy;split at hy
        ·cases hy;rfl
        · split at hy
          ·cases hy;rfl
          ·cases hy;exact hb _ rfl)
  refine(aV ((tq (ds:=(hV c rows).map D.int) ?_).trans e)).trans ?_
  ·simp only[st,ia,aG,ae,ax,eV,aQ,lP,lQ,dQ,fe,cC,gT,DJ h0 h6,fu]
  ·rfl
theorem wI{a b c:Option Rat}(h1:bM b a=false)(h2:bM c b=false):bM c a=false:=by cases a<;>cases b<;>cases c<;>simp_all [bM];grind
theorem Ni{a b:Option Rat}(h1:bM a b=false)(h2:bM b a=false):a=b:=by cases a<;>cases b<;>simp_all [bM];grind
theorem Nj(a:Option Rat):bM a a=false:=by cases a<;>simp[bM]
theorem wJ(f:Int→Option Rat):∀(l:bD) (s:Option (Int×Option Rat)) {b:Int×Option Rat},l.foldl (hG f) s=some b→(∀m∈l,bM (f m) b.2=false)∧∀y,s=some y→bM y.2 b.2=false
  |[],s,b,h=>⟨(fun _ z=>nomatch z),fun y hy=>by
   have:s=some b:=h;rw[this] at hy;cases hy;exact Nj _⟩
  |n::l,s,b,h=>by
   obtain⟨i1,i2⟩:=wJ f l (hG f s n) h;have key:bM (f n) b.2=false∧∀y,s=some y→bM y.2 b.2=false:=by
     cases s with
     |none=>exact⟨i2 _ rfl,fun _ z=>nomatch z⟩
     |some y =>
      by_cases hc:bM (f n) y.2=true
      · have:=i2 (n,f n) (bR hc);refine⟨this,fun y' hy=>?_⟩;cases hy;have h3:bM y.2 (f n)=false:=by
          cases e:bM y.2 (f n) with
          |false=>rfl
          |true=>exfalso;revert hc e;cases y.2<;>cases f n<;>simp[bM];grind
        exact wI this h3
      ·have:=i2 y (bS hc);refine⟨wI this (by simpa using hc),fun y' hy=>?_⟩;cases hy;exact this
   refine⟨fun m hm=>?_,key.2⟩;rcases gB.mp hm with rfl|hm
   ·exact key.1
   ·exact i1 m hm
theorem wK(f:Int→Option Rat):∀(l:bD) (s:Option (Int×Option Rat)) {b:Int×Option Rat},l.Pairwise (·<·)→(∀y,s=some y→∀m∈l,y.1<m)→l.foldl (hG f) s=some b→(∀m∈l,f m=b.2→b.1≤m)∧∀y,s=some y→y.2=b.2→b.1≤y.1
  |[],s,b,_,_,h=>⟨(fun _ z=>nomatch z),fun y hy _=>by
   have:s=some b:=h;rw[this] at hy;cases hy;exact Int.le_refl _⟩
  |n::l,s,b,hp,hs,h=>by
   have xC:=List.pairwise_cons.mp hp;have II:∀y,hG f s n=some y→∀m∈l,y.1<m:=fun y hy m hm=>by
     unfold hG at hy;split at hy
     ·cases hy;exact xC.1 m hm
     · split at hy
       ·cases hy;exact xC.1 m hm
       ·cases hy;exact hs _ rfl m (h9 _ hm)
   obtain⟨i1,i2⟩:=wK f l (hG f s n) xC.2 II h;obtain⟨j1,j2⟩:=wJ f l (hG f s n) h;cases s with
   |none =>
    refine⟨fun m hm e=>?_,fun _ z=>nomatch z⟩;rcases gB.mp hm with rfl|hm
    ·exact i2 (m,f m) rfl e
    ·exact i1 m hm e
   |some y =>
    by_cases hc:bM (f n) y.2=true
    · have e0:hG f (some y) n=some (n,f n):=bR hc;have k2:=i2 (n,f n) e0;have k3:=j2 (n,f n) e0;refine⟨fun m hm e=>?_,fun y' hy e=>?_⟩
      · rcases gB.mp hm with rfl|hm
        ·exact k2 e
        ·exact i1 m hm e
      ·cases hy;rw[e] at hc;rw[hc] at k3;cases k3
    · have e0:hG f (some y) n=some y:=bS hc;have k2:=i2 y e0;have k3:=j2 y e0;refine⟨fun m hm e=>?_,fun y' hy e=>?_⟩
      · rcases gB.mp hm with rfl|hm
        ·have e2:y.2=b.2:=Ni k3 (by rw[←e];simpa using hc);have:=k2 e2;have:=hs y rfl m hI;omega
        ·exact i1 m hm e
      ·cases hy;exact k2 e
theorem Hf(f:Int→Option Rat){l:bD}(h:l≠[]):∃b,FD f l=some b:=by
  have key:∀(l:bD) (y:Int×Option Rat),∃b,l.foldl (hG f) (some y)=some b:=by
    intro l;induction l with
    |nil=>intro y;exact⟨y,rfl⟩
    |cons n l ih =>
     intro y;rw[List.foldl_cons];unfold hG;simp only;split
     ·exact ih _
     ·exact ih _
  cases l with
  |nil=>exact absurd rfl h
  |cons n l=>exact key l (n,f n)
theorem ou(names:bD)(rows:pW)(r:Int×Option Rat):eR names (rows++[r])=if names.contains r.1=true then r.2 else eR names rows:=by unfold eR;rw[List.foldl_append];rfl
theorem Vv{n:Int}:n∈hV c rows↔(0≤n∧n<c)∧n∉rows.map fun r=>r.1:=by
  unfold hV;rw[j3,lR];constructor
  ·rintro⟨⟨i,hi,rfl⟩,h⟩;have:=xt.mp hi;refine⟨by omega,?_⟩;simpa using h
  ·rintro⟨⟨h0,h1⟩,h⟩;refine⟨⟨n.toNat,xt.mpr (by omega),by omega⟩,?_⟩;simpa using h
theorem Ky(c:Int)(rows:pW):(hV c rows).Pairwise (·<·):=by unfold hV;refine List.Pairwise.filter _ ?_;rw[List.pairwise_map];exact List.pairwise_lt_range.imp fun h=>by omega
theorem QV(c:Int)(rows:pW):(hV c rows).Nodup:=(Ky c rows).imp fun h=>by omega
theorem BX(c:Int)(rows:pW)(r:Int×Option Rat):hV c (rows++[r])=(hV c rows).erase r.1:=by
  rw[List.Nodup.erase_eq_filter (QV c rows)];unfold hV;rw[List.filter_filter];refine List.filter_congr fun n _=>?_;rw[List.map_append,Bool.eq_iff_iff];simp;constructor
  ·rintro⟨a,b⟩;exact⟨b,a⟩
  ·rintro⟨a,b⟩;exact⟨b,a⟩
def DK:Option Rat→Int
  |none=>1
  |some r=>(r.den:Int)
def ui:pW→Int
  |[]=>1
  |r::l=>DK r.2*ui l
theorem qw(r:Int×Option Rat):∀l:pW,ui (l++[r])=ui l*DK r.2
  |[]=>by show DK r.2*1=1*DK r.2;omega
  |x::l=>by show DK x.2*ui (l++[r])=DK x.2*ui l*DK r.2;rw[qw r l,Int.mul_assoc]
structure Sq (c:Int) (hs:ip) (rows:pW) (L:Option Rat) (P:Int):Prop where
  pr:P=ui rows
  pos:0<P
  pb:P≤2^(105*(2^rows.length-1))
  heap:∀h∈hs,∃x,eR h.1 rows=some x∧gx P x∧0≤x∧x≤(rows.length:Rat)∧∀l,L=some l→x≤l
  cnt:(hV c rows).length+rows.length=c.toNat
  mn:∀m∈hV c rows,bM (dC hs rows m) L=false
theorem FG(h:k≤5):105*(2^k-1)≤3255:=by
  have:k=0∨k=1∨k=2∨k=3∨k=4∨k=5:=by omega
  rcases this with rfl|rfl|rfl|rfl|rfl|rfl<;>decide
theorem Sq.ok{P:Int}(s:Sq c hs rows L P)(h5:rows.length≤5):pk hs rows P:=by
  refine⟨s.pos,?_,fun h hm=>?_⟩
  · have h1:=s.pb;have h2:(2:Int)^(105*(2^rows.length-1))≤2^3255:=d6 (FG h5);have h3:(2:Int)^3255<2^3300:=by decide +kernel
    exact sG (Int.le_trans h1 h2) h3
  · obtain⟨x,e,w,x0,x1,_⟩:=s.heap h hm;refine⟨x,e,w,x0,?_⟩;have:(rows.length:Rat)≤6:=by
      have:=Cj.mpr (show((rows.length:Nat):Int)≤6 by omega);rw[Rat.intCast_natCast] at this;exact this
    grind
theorem Kz{rows:pW}{K:Rat}:∀{l:ip},(∀h∈l,1≤h.2∧xh rows h≤K)→∀t:Rat,nD rows l t≤t+K*(ak l:Rat)
  |[],_,t=>by have e:ak []=0:=rfl;rw[e];show t≤t+K*((0:Int):Rat);have:((0:Int):Rat)=0:=rfl;grind
  |h::l,hl,t=>by
   obtain⟨h1,h2⟩:=hl h hI;have ih:=Kz (rows:=rows) (K:=K) (l:=l) (fun y hy=>hl y (h9 _ hy)) (t+(h.2:Rat)*xh rows h);have Ng:(0:Rat)≤(h.2:Rat):=by have:=Cj.mpr (show(0:Int)≤h.2 by omega);simpa using this
   have p2:(h.2:Rat)*xh rows h≤(h.2:Rat)*K:=Rat.mul_le_mul_of_nonneg_left h2 Ng;have e:nD rows (h::l) t=nD rows l (t+(h.2:Rat)*xh rows h):=rfl;rw[e,cW,Rat.intCast_add];grind
theorem BZ{rows rows':pW}:∀{l:ip},(∀h∈l,1≤h.2∧xh rows h≤xh rows' h)→∀{t t':Rat},t≤t'→nD rows l t≤nD rows' l t'
  |[],_,t,t',h=>h
  |h::l,hl,t,t',ht=>by
   obtain⟨h1,h2⟩:=hl h hI;have Ng:(0:Rat)≤(h.2:Rat):=by have:=Cj.mpr (show(0:Int)≤h.2 by omega);simpa using this
   have p2:(h.2:Rat)*xh rows h≤(h.2:Rat)*xh rows' h:=Rat.mul_le_mul_of_nonneg_left h2 Ng;have ih:=BZ (rows:=rows) (rows':=rows') (l:=l) (fun y hy=>hl y (h9 _ hy)) (t:=t+(h.2:Rat)*xh rows h) (t':=t'+(h.2:Rat)*xh rows' h) (by grind);exact ih
theorem B1{a b n:Rat}(hn:0<n)(h:a≤b):a / n≤b / n:=by rw[Rat.div_def,Rat.div_def];exact Rat.mul_le_mul_of_nonneg_right h (Rat.le_of_lt (Rat.inv_pos.mpr hn))
theorem KC(hh:∀h∈hs,1≤h.2){rows':pW}(h:∀h∈hs,xh rows h≤xh rows' h)(n:Int):bM (dC hs rows' n) (dC hs rows n)=false:=by
  unfold dC;by_cases h0:ak (aS hs n)=0
  ·rw[bR h0];rfl
  · rw[bS h0,bS h0];have Ua:=m4 (l:=aS hs n) fun x hx=>hh x (j3.mp hx).1;have hn:(0:Rat)<(ak (aS hs n):Rat):=by
      have:=Rat.intCast_lt_intCast.mpr (show(0:Int)<ak (aS hs n) by omega);simpa using this
    have:=B1 hn (BZ (rows:=rows) (rows':=rows') (l:=aS hs n) (fun x hx=>⟨hh x (j3.mp hx).1,h x (j3.mp hx).1⟩) (t:=1) (t':=1) Rat.le_refl);unfold bM;exact mB (Rat.not_lt.mpr this)
theorem QW{P T:Int}{t:Rat}(hP:0<P)(P7:P<2^3400)(hT:0≤T)(XZ:T<2^200)(h:gx P t)(h0:0≤t)(h1:t≤(T:Rat)):Bd t:=by have hd:=h.den hP;have dp:=den_pos t;have hn:=DH h1;refine⟨Kv h0,?_,sG hd (nz P7 (d6 (by decide)))⟩;have h2:T*(t.den:Int)<2^(200+3400):=iF hT (kU dp) XZ (sG hd P7);exact sG hn (nz h2 (d6 (by decide)))
theorem KD(hh:∀h∈hs,1≤h.2)(hN:ak hs≤2^105){P:Int}(s:Sq c hs rows L P)(h5:rows.length≤5)(n:Int){y:Rat}(e:dC hs rows n=some y):0≤y∧y≤((rows.length+1:Nat):Rat)∧Bd y∧(y.den:Int)≤P*2^105:=by
  have ok:=s.ok h5;have nle:=yF hh n;have Ua:=m4 (l:=aS hs n) fun x hx=>hh x (j3.mp hx).1;unfold dC at e;by_cases h0:ak (aS hs n)=0
  ·rw[bR h0] at e;cases e
  rw[bS h0] at e;have hn:(0:Rat)<(ak (aS hs n):Rat):=by have:=Rat.intCast_lt_intCast.mpr (show(0:Int)<ak (aS hs n) by omega);simpa using this
  have Tx:(1:Rat)≤(ak (aS hs n):Rat):=by have:=Cj.mpr (show(1:Int)≤ak (aS hs n) by omega);simpa using this
  obtain⟨w,t0,_⟩:=z7 ok (l:=aS hs n) (fun h hm=>⟨(j3.mp hm).1,hh h (j3.mp hm).1⟩) (t:=1) (T:=1) (gx.one P) (by decide) (by decide);have tl:=Kz (rows:=rows) (K:=(rows.length:Rat)) (l:=aS hs n) (fun h hm=>⟨hh h (j3.mp hm).1,by
    obtain⟨x,e,_,_,x1,_⟩:=s.heap h (j3.mp hm).1;unfold xh;rw[e];exact x1⟩) 1
  generalize nD rows (aS hs n) 1=t at e w t0 tl;have ey:y=t / (ak (aS hs n):Rat):=(kj e).symm;have eN:y*(ak (aS hs n):Rat)=t:=by rw[ey];grind
  have y0:0≤y:=by rw[ey,Rat.div_def];exact Rat.mul_nonneg t0 (Rat.le_of_lt (Rat.inv_pos.mpr hn))
  have e1:((rows.length+1:Nat):Rat)=(rows.length:Rat)+1:=by simp
  have y1:y≤((rows.length+1:Nat):Rat):=by
    have h1:t≤((rows.length:Rat)+1)*(ak (aS hs n):Rat):=by grind
    have h2:=B1 hn h1;rw[←ey] at h2;have h3:((rows.length:Rat)+1)*(ak (aS hs n):Rat) / (ak (aS hs n):Rat)=(rows.length:Rat)+1:=by grind
    rw[h3] at h2;rw[e1];exact h2
  have wy:gx (P*ak (aS hs n)) y:=by obtain⟨z,hz⟩:=w;refine⟨z,?_⟩;rw[yO,←hz,←eN];grind
  have pN:0<P*ak (aS hs n):=Int.mul_pos ok.pos (by omega);have pN2:P*ak (aS hs n)≤P*2^105:=Int.mul_le_mul_of_nonneg_left (by omega) (kU ok.pos);have hP5:P≤2^3255:=Int.le_trans s.pb (d6 (FG h5));have pN3:P*2^105≤2^3360:=by have h1:P*2^105≤2^3255*2^105:=Int.mul_le_mul_of_nonneg_right hP5 (by decide +kernel);rw[←Int.pow_add] at h1;exact h1
  have h36:(2:Int)^3360<2^3400:=by decide +kernel
  refine⟨y0,y1,QW (T:=6) pN (by omega) (by decide) (nz (show(6:Int)<2^3 by decide) (d6 (by decide))) wy y0 ?_,Int.le_trans (wy.den pN) pN2⟩;have h6:((rows.length+1:Nat):Rat)≤6:=by have:=Cj.mpr (show(((rows.length+1:Nat)):Int)≤6 by omega);rw[Rat.intCast_natCast] at this;exact this
  have e6:((6:Int):Rat)=6:=rfl;grind
theorem Nk(h0:0≤c)(h6:c≤6)(hh:∀h∈hs,1≤h.2)(hN:ak hs≤2^105){P:Int}(s:Sq c hs rows L P)(hl:(rows.length:Int)<c):∃n y,FD (dC hs rows) (hV c rows)=some (n,y)∧y=dC hs rows n∧n∈hV c rows∧(∀m∈hV c rows,bM (dC hs rows m) y=false)∧(∀m∈hV c rows,dC hs rows m=y→n≤m)∧bM y L=false∧∃P',Sq c hs (rows++[(n,y)]) y P':=by
  have h5:rows.length≤5:=by omega
  have mz:hV c rows≠[]:=fun e=>by have:=s.cnt;rw[e] at this;simp at this;omega
  obtain⟨⟨n,y⟩,e⟩:=Hf (dC hs rows) mz;obtain⟨e1,e2⟩:=BW (dC hs rows) (hV c rows) none (fun _ z=>nomatch z) e;have hn:n∈hV c rows:=e2.resolve_left fun z=>nomatch z;have e1:y=dC hs rows n:=e1;obtain⟨m1,_⟩:=wJ (dC hs rows) (hV c rows) none e;obtain⟨f1,_⟩:=wK (dC hs rows) (hV c rows) none (Ky c rows) (fun _ z=>nomatch z) e;have hL:bM y L=false:=by rw[e1];exact s.mn n hn
  refine⟨n,y,e,e1,hn,m1,f1,hL,?_⟩
  -- the new state
  have hx:∀h∈hs,xh rows h≤xh (rows++[(n,y)]) h:=fun h hm=>by
    obtain⟨x,ex,_,_,_,xl⟩:=s.heap h hm;unfold xh;rw[ou,ex];by_cases hc:h.1.contains n=true
    · rw[bR hc];cases y with
      |none =>
       exfalso;have hz:ak (aS hs n)=0:=by
         unfold dC at e1;split at e1
         ·assumption
         ·cases e1
       have hp:1≤ak (aS hs n):=by
         have QF:h∈aS hs n:=j3.mpr ⟨hm,hc⟩;have key:∀{l:ip},(∀x∈l,1≤x.2)→h∈l→1≤ak l:=by
           intro l;induction l with
           |nil=>intro _ z;nomatch z
           |cons z l ih=>intro hy hz;have a0:=m4 (l:=l) fun x hx=>hy x (h9 _ hx);have a1:=hy z hI;rw[cW];omega
         exact key (fun x hx=>hh x (j3.mp hx).1) QF
       omega
      |some y' =>
       show x≤y';cases L with
       |none=>exfalso;simp[bM] at hL
       |some l =>
        have:=xl l rfl;have h2:¬ y'<l:=by simpa[bM] using hL
        have:=Rat.not_lt.mp h2;grind
    ·rw[bS hc];exact Rat.le_refl
  have Uc:(hV c (rows++[(n,y)])).length+(rows++[(n,y)]).length=c.toNat:=by rw[BX,List.length_erase_of_mem hn,uq];have:=s.cnt;have:1≤(hV c rows).length:=List.length_pos_of_mem hn;simp;omega
  have hmn:∀m∈hV c (rows++[(n,y)]),bM (dC hs (rows++[(n,y)]) m) y=false:=fun m hm=>by rw[BX] at hm;exact wI (m1 m (List.mem_of_mem_erase hm)) (KC hh hx m)
  have DN:(rows++[(n,y)]).length=rows.length+1:=by simp
  cases y with
  |none =>
   refine⟨P,by rw[qw,s.pr];show ui rows=ui rows*1;omega,s.pos,?_,fun h hm=>?_,Uc,hmn⟩
   ·rw[DN];refine Int.le_trans s.pb (d6 ?_);have:2^rows.length≤2^(rows.length+1):=Nat.pow_le_pow_right (by decide) (by omega);omega
   · obtain⟨x,ex,w,x0,x1,xl⟩:=s.heap h hm;have hc:¬ h.1.contains n=true:=fun hc=>by
       have:=hx h hm;have hz:ak (aS hs n)=0:=by
         unfold dC at e1;split at e1
         ·assumption
         ·cases e1
       have hp:1≤ak (aS hs n):=by
         have QF:h∈aS hs n:=j3.mpr ⟨hm,hc⟩;have key:∀{l:ip},(∀x∈l,1≤x.2)→h∈l→1≤ak l:=by
           intro l;induction l with
           |nil=>intro _ z;nomatch z
           |cons z l ih=>intro hy hz;have a0:=m4 (l:=l) fun x hx=>hy x (h9 _ hx);have a1:=hy z hI;rw[cW];omega
         exact key (fun x hx=>hh x (j3.mp hx).1) QF
       omega
     refine⟨x,by rw[ou,bS hc];exact ex,w,x0,?_,fun l hl=>nomatch hl⟩;rw[DN];have e1:((rows.length+1:Nat):Rat)=(rows.length:Rat)+1:=by simp
     grind
  |some y' =>
   obtain⟨y0,y1,bd,hd⟩:=KD hh hN s h5 n e1.symm;have dp:=den_pos y';refine⟨P*(y'.den:Int),by rw[qw,s.pr];rfl,Int.mul_pos s.pos dp,?_,fun h hm=>?_,Uc,hmn⟩
   · rw[DN];have h1:P*(y'.den:Int)≤P*(P*2^105):=Int.mul_le_mul_of_nonneg_left hd (kU s.pos);have h2:P*(P*2^105)≤2^(105*(2^rows.length-1))*(2^(105*(2^rows.length-1))*2^105):=by
       have Ud:(0:Int)≤2^105:=by decide +kernel
       have a1:P*2^105≤2^(105*(2^rows.length-1))*2^105:=Int.mul_le_mul_of_nonneg_right s.pb Ud;have a2:0≤P*2^105:=Int.mul_nonneg (kU s.pos) Ud;have a3:(0:Int)≤2^(105*(2^rows.length-1)):=Int.le_trans (kU s.pos) s.pb;exact Int.le_trans (Int.mul_le_mul_of_nonneg_right s.pb a2) (Int.mul_le_mul_of_nonneg_left a1 a3)
     rw[←Int.pow_add,←Int.pow_add] at h2;have h3:105*(2^rows.length-1)+(105*(2^rows.length-1)+105)≤105*(2^(rows.length+1)-1):=by have q1:1≤2^rows.length:=Nat.one_le_two_pow;rw[Nat.pow_succ];omega
     exact Int.le_trans h1 (Int.le_trans h2 (d6 h3))
   · obtain⟨x,ex,w,x0,x1,xl⟩:=s.heap h hm;have e1':((rows.length+1:Nat):Rat)=(rows.length:Rat)+1:=by simp
     rw[ou,DN];by_cases hc:h.1.contains n=true
     · rw[bR hc];refine⟨y',rfl,⟨P*y'.num,?_⟩,y0,y1,fun l hl=>?_⟩
       · rw[yO,yO];have e2:((y'.den:Int):Rat)*y'=((y'.num:Int):Rat):=by
           have TB:((y'.den:Int):Rat)≠0:=fun e=>by have:=Rat.intCast_eq_zero_iff.mp e;omega
           have e3:y'=((y'.num:Int):Rat) / ((y'.den:Int):Rat):=by rw[←Rat.divInt_eq_div,Rat.num_divInt_den]
           conv=>lhs;rhs;rw[e3]
           grind
         rw[Rat.mul_assoc,e2]
       ·cases hl;exact Rat.le_refl
     · rw[bS hc];refine⟨x,ex,?_,x0,by grind,fun l hl=>?_⟩
       ·obtain⟨z,hz⟩:=w;refine⟨z*(y'.den:Int),?_⟩;rw[yO,yO,←hz];grind
       · cases hl;have:=hx h hm;unfold xh at this;rw[ou,bS hc,ex] at this;cases L with
         |none=>exfalso;simp[bM] at hL
         |some l' =>
          have q1:=xl l' rfl;have h2:¬ y'<l':=by simpa[bM] using hL
          have:=Rat.not_lt.mp h2;grind
inductive Run (c:Int) (hs:ip):pW→Option Rat→pW→Prop
  |done {rows:pW} {L:Option Rat} (h:(rows.length:Int)=c):Run c hs rows L []
  |step {rows:pW} {L:Option Rat} {P:Int} {n:Int} {y:Option Rat} {rest:pW} (s:Sq c hs rows L P) (hl:(rows.length:Int)<c) (e:FD (dC hs rows) (hV c rows)=some (n,y)) (ey:y=dC hs rows n) (hn:n∈hV c rows)
      (m1:∀m∈hV c rows,bM (dC hs rows m) y=false) (m2:∀m∈hV c rows,dC hs rows m=y→n≤m) (hL:bM y L=false) (t:Run c hs (rows++[(n,y)]) y rest):Run c hs rows L ((n,y)::rest)
theorem DQ{c:Int}(h0:0≤c)(h6:c≤6){hs:ip}(hh:∀h∈hs,1≤h.2)(hN:ak hs≤2^105):∀(k:Nat) {rows:pW} {L:Option Rat} {P:Int},Sq c hs rows L P→(rows.length:Int)+k=c→∃rest,Run c hs rows L rest∧rest.length=k
  |0,rows,L,P,s,h=>⟨[],.done (by omega),rfl⟩
  |k+1,rows,L,P,s,h=>by obtain⟨n,y,e,ey,hn,m1,m2,hL,P',s'⟩:=Nk h0 h6 hh hN s (by omega);obtain⟨rest,t,hl⟩:=DQ h0 h6 hh hN k s' (by simp;omega);exact⟨(n,y)::rest,.step s (by omega) e ey hn m1 m2 hL t,by simp[hl]⟩
theorem Nm(hh:∀h∈hs,1≤h.2)(hN:ak hs≤2^105){P:Int}(s:Sq c hs rows L P)(h5:rows.length≤5)(n:Int):Vu (dC hs rows n):=by
  cases e:dC hs rows n with
  |none=>trivial
  |some y=>exact(KD hh hN s h5 n e).2.2.1
theorem X6{x:Int}(h:x≤2^105):x<2^110:=by
  have:(2:Int)^105<2^110:=by decide +kernel
  omega
theorem Nn(h0:0≤c)(h6:c≤6)(hh:∀h∈hs,1≤h.2)(hN:ak hs≤2^105)(S:D)(t:Run c hs rows L rest):∀n:Nat,rest.length<n→rows.length≤6→iW dh gu n [some (.sh S),some (.sh (.int c)),some (.sh (.lst (hs.map aK))),some (.ol (rows.map bX))]=some (.nx [some (.sh S),some (.sh (.int c)),some (.sh (.lst (hs.map aK))),some (.ol ((rows++rest).map bX))]):=by
  induction t with
  |@done rows L h =>
   intro n hn _;obtain⟨m,rfl⟩:∃m,n=m+1:=⟨n-1,by omega⟩
   unfold iW;have ht:dh [some (.sh S),some (.sh (.int c)),some (.sh (.lst (hs.map aK))),some (.ol (rows.map bX))]=some false:=by simp only[dh,cg,ai,sF,ae,ax,aQ,kB,dQ,fe,cC,gT,yn,dX];rw[mB (by omega)]
   rw[ht];simp
  |@step rows L P nm y rest s hl e ey hn m1 m2 hL t ih =>
   intro n hn h6';obtain⟨m,rfl⟩:∃m,n=m+1:=⟨n-1,by omega⟩
   have h5:rows.length≤5:=by omega
   unfold iW;have ht:dh [some (.sh S),some (.sh (.int c)),some (.sh (.lst (hs.map aK))),some (.ol (rows.map bX))]=some true:=by simp only[dh,cg,ai,sF,ae,ax,aQ,kB,dQ,fe,cC,gT,yn,dX];rw[km (by omega)]
   have rn:=QT h0 h6 (s.ok h5) hh (X6 hN) (Nm hh hN s h5);rw[e] at rn;have hlen:(rows.map bX).length<10000:=by rw[dX];omega
   have hg:gu [some (.sh S),some (.sh (.int c)),some (.sh (.lst (hs.map aK))),some (.ol (rows.map bX))]=some (.nx [some (.sh S),some (.sh (.int c)),some (.sh (.lst (hs.map aK))),some (.ol ((rows++[(nm,y)]).map bX))]):=by simp only[gu,e8,aG,ae,ax,eV,aQ,dQ,fe,cC,gT,rn,FE,hlen,iq,lP,lQ,List.map_append,gy,mC]
   rw[ht];simp only[cC,iq,hg];have:=ih m (by simp at hn;omega) (by simp;omega);rw[this];simp
theorem z8(h0:0≤c)(h6:c≤6)(hh:∀h∈hs,1≤h.2)(hN:ak hs≤2^105)(S:D)(t:Run c hs [] L rest)(hl:rest.length≤6):aB [S,.int c,.lst (hs.map aK)]=some (.ol (rest.map bX)):=by
  refine dU ?_;show jV [some (.sh S),some (.sh (.int c)),some (.sh (.lst (hs.map aK))),none]=_;unfold jV;refine(aV (uS (d:=[]) rfl)).trans ?_;have:=Nn h0 h6 hh hN S t 100 (by omega) (by simp);refine(aV (show qf 100 _ _ _=some (.nx _) from this)).trans ?_;rfl
theorem B2(h0:0≤c)(hh:∀h∈hs,1≤h.2):Sq c hs [] (some 0) 1:=by
  have hp:∀h∈hs,∃x,eR h.1 []=some x∧gx 1 x∧0≤x∧x≤6:=fun h _=>⟨0,rfl,⟨0,by rw[Rat.mul_zero];rfl⟩,Rat.le_refl,by decide⟩
  have ok:pk hs [] 1:=⟨by decide,by decide +kernel,hp⟩
  refine⟨rfl,by decide,by decide,fun h _=>⟨0,rfl,⟨0,by rw[Rat.mul_zero];rfl⟩,Rat.le_refl,by decide,fun l hl=>by cases hl;exact Rat.le_refl⟩,?_,fun m _=>?_⟩
  ·unfold hV;have e:(((List.range c.toNat).map fun(i:Nat)=>(0:Int)+(i:Int)).filter fun n=>!(([]:pW).map fun r=>r.1).contains n)=(List.range c.toNat).map fun(i:Nat)=>(0:Int)+(i:Int):=List.filter_eq_self.mpr fun _ _=>rfl;rw[e];simp
  · unfold dC;by_cases q:ak (aS hs m)=0
    ·rw[bR q];rfl
    · rw[bS q];obtain⟨_,t0,_⟩:=z7 ok (l:=aS hs m) (fun h hm=>⟨(j3.mp hm).1,hh h (j3.mp hm).1⟩) (t:=1) (T:=1) (gx.one 1) (by decide) (by decide);have Ua:=m4 (l:=aS hs m) fun x hx=>hh x (j3.mp hx).1;have hn:(0:Rat)<(ak (aS hs m):Rat):=by
        have:=Rat.intCast_lt_intCast.mpr (show(0:Int)<ak (aS hs m) by omega);simpa using this
      unfold bM;refine mB (Rat.not_lt.mpr ?_);rw[Rat.div_def];exact Rat.mul_nonneg t0 (Rat.le_of_lt (Rat.inv_pos.mpr hn))
theorem Ue{ms:bD}{S:D}(h:fu S=some (ms.map D.int)):gp [.tup (ns.map D.int),S]=some (.sh (.int (Li ns ms))):=by
  have q:fA (aZ true 0) (cg (ai (inD false) (aQ 0) (aQ 1))) (eV 0) (ns.map D.int) (List.replicate 1 none++[some (.br S)])=some ((ns.filter fun n=>ms.contains n).map D.int):=by
    refine iL D.int (fun n=>ms.contains n) D.int fun n _=>⟨[some (.sh (.int n)),some (.br S)],rfl,?_,fun _=>rfl⟩
    have q:=rE (n:=n) h;simp only[cg,ai,aQ,dQ,fe,cC,q]
  refine dU ?_;show lF [some (.sh (.tup (ns.map D.int))),some (.br S)]=_;unfold lF;refine jR ?_;simp only[sF,ae,ax,eL,dg,ia,eV,dQ,fe,cC,fu,ky,gy,mC,yM];rw[q];simp[kB,Li]
def ny(f:Int→Int→Bool)(b:Int)(l:bD):Int:=l.foldl (fun b x=>if f b x=true then x else b) b
def Ot(f:Int→Int→Bool):bD→Int
  |[]=>0
  |n::l=>ny f n l
theorem yG(f:Int→Int→Bool):∀(l:bD) (b:Int),ny f b l∈b::l
  |[],b=>hI
  |x::l,b=>by
   show ny f (if f b x=true then x else b) l∈_;have:=yG f l (if f b x=true then x else b);rcases gB.mp this with e|m
   · rw[e];split
     ·simp
     ·simp
   ·simp[m]
theorem Hg(f:Int→Int→Bool){l:bD}(h:l≠[]):Ot f l∈l:=by
  cases l with
  |nil=>exact absurd rfl h
  |cons n l=>exact yG f l n
def tW(c:Int)(S:bD):bD:=((List.range c.toNat).map fun(i:Nat)=>(0:Int)+(i:Int)).filter fun n=>!S.contains n
theorem yH{ms:bD}{S:D}(h:fu S=some (ms.map D.int))(h6:∀x∈hs,x.1.length≤6):gY [.lst (hs.map aK),S]=some (.sh (.int (dG hs ms))):=by
  refine dU ?_;show tK [some (.sh (.lst (hs.map aK))),some (.sh S)]=_;unfold tK;refine jR ?_;have q':fA (nC 2 (df (aZ true 0) (df (aZ true 1) nA))) iV (ai xG (aQ 1) (Jc jG (aG gp (ae (eV 0) (ae (aQ 2) ax))))) (hs.map aK) (List.replicate 2 none++[some (.sh S)])=some (hs.map fun x=>D.int (x.2*zh.getD (Li x.1 ms) 0)):=by
    refine gf aK _ fun x hx=>⟨[some (.sh (.tup (x.1.map D.int))),some (.sh (.int x.2)),some (.sh S)],rfl,rfl,?_⟩
    have hle:Li x.1 ms≤6:=qG (P8 _ _) (h6 x hx);have X7:pE jG ((Li x.1 ms:Nat):Int)=some (zh.getD (Li x.1 ms) 0):=by refine uN ?_;have:jG=zh:=rfl;rw[this,pw,nH (by show _<7;omega)];rfl
    obtain⟨l1,l2⟩:=L7 hle;simp only[ai,aQ,Jc,aG,ae,ax,eV,dQ,fe,cC,gT,Ue h,X7,Qs (De l1 l2)]
  simp only[sF,ae,ax,eL,dg,ia,eV,dQ,fe,cC,fu,ky,gy,mC,yM,q',gT,Gv];have e:(hs.map fun x=>D.int (x.2*zh.getD (Li x.1 ms) 0))=(hs.map fun x=>x.2*zh.getD (Li x.1 ms) 0).map D.int:=by rw[ko];rfl
  rw[e,iK];rfl
def cx(r:Int×Int):D:=.tup [.int r.1,.int r.2]
theorem wL(rows:List (Int×Int)):bC [.lst (rows.map cx)]=some (.ol ((rows.map fun r=>r.1).map D.int)):=by
  refine dU ?_;show fS [some (.br (.lst (rows.map cx)))]=_;unfold fS;refine j5 ?_;have X8:∀r:Int×Int,jd (cx r) (.int 0)=some (.int r.1):=fun _=>rfl;have key:∀(b:BF) (f:EF) (η:cD),(∀r∈rows,∃η1,b (cx r) η=some η1∧f η1=some (.int r.1))→fA b iV f (rows.map cx) η=some (rows.map fun r=>D.int r.1):=fun b f η h=>gf cx (fun r=>D.int r.1) fun r hr=>by obtain⟨η1,h1,h2⟩:=h r hr;exact⟨η1,h1,rfl,h2⟩
  have e:((rows.map fun r=>r.1).map D.int)=rows.map fun r=>D.int r.1:=by rw[ko];rfl
  rw[e];simp only[dg,CZ,dQ,cC,ky,mC];refine key _ _ _ fun r _=>⟨_,rfl,?_⟩
  simp only[eI,ai,aQ,eV,eC,dQ,cC,X8];rfl
theorem QX(h0:0≤c)(h6:c≤6)(rows:List (Int×Int)):dB [.int c,.lst (rows.map cx)]=some (.ol ((tW c (rows.map fun r=>r.1)).map D.int)):=by
  refine dU ?_;show i9 [some (.sh (.int c)),some (.br (.lst (rows.map cx)))]=_;unfold i9;refine j5 ?_;have hr:(if c≤10000∧-10000≤c then some (cA 0 c.toNat) else none)=some ((((List.range c.toNat).map fun(i:Nat)=>(0:Int)+(i:Int))).map D.int):=by rw[bR ⟨by omega,by omega⟩,gK]
  have q:fA (aZ true 0) (cg (ai (inD true) (aQ 0) (aG bC (ae (aQ 1) ax)))) (eV 0) ((((List.range c.toNat).map fun(i:Nat)=>(0:Int)+(i:Int))).map D.int) (List.replicate 1 none++[some (.br (.lst (rows.map cx)))])=some ((tW c (rows.map fun r=>r.1)).map D.int):=by
    unfold tW;have key:=iL (b:=aZ true 0) (t:=cg (ai (inD true) (aQ 0) (aG bC (ae (aQ 1) ax)))) (f:=eV 0) (η:=List.replicate 1 none++[some (.br (.lst (rows.map cx)))]) (xs:=(List.range c.toNat).map fun(i:Nat)=>(0:Int)+(i:Int)) D.int (fun n=>!(rows.map fun r=>r.1).contains n) D.int;refine key fun n _=>⟨[some (.sh (.int n)),some (.br (.lst (rows.map cx)))],rfl,?_,fun _=>rfl⟩
    have q:=Bq (n:=n) (S:=.lst ((rows.map fun r=>r.1).map D.int)) (ms:=rows.map fun r=>r.1) rfl;simp only[cg,ai,aQ,aG,ae,ax,dQ,fe,cC,gT,wL,q]
  simp only[dg,gq,aQ,dQ,fe,cC,hr,ky,gy,mC,yM,q]
def pq(hs:ip)(S:bD)(n:Int):Int:=dG hs (S++[n])-dG hs S
theorem B3{rows:List (Int×Int)}(h6:∀x∈hs,x.1.length≤6)(hr:rows.length≤10)(x:Int)(o4:D)(o6:fU):dm 6 (ai zt (aG gY (ae (eV 1) (ae (eL (Gw (aG bC (ae (aQ 2) ax)) (eL (kA (ae (eV 5) ax))))) ax))) (aQ 3)) [some (.sh (.int c)),some (.sh (.lst (hs.map aK))),some (.br (.lst (rows.map cx))),some (.sh (.int (dG hs (rows.map fun r=>r.1)))),some (.sh o4),some (.sh (.int x)),o6]=some (.nx [some (.sh (.int c)),some (.sh (.lst (hs.map aK))),some (.br (.lst (rows.map cx))),some (.sh (.int (dG hs (rows.map fun r=>r.1)))),some (.sh o4),some (.sh (.int x)),some (.sh (.int (pq hs (rows.map fun r=>r.1) x)))]):=by
  have hw:=yH (hs:=hs) (ms:=(rows.map fun r=>r.1)++[x]) (S:=.lst ((rows.map fun r=>r.1).map D.int++[.int x])) (by simp[fu]) h6;refine(cB (d:=.int (pq hs (rows.map fun r=>r.1) x)) ?_).trans rfl;have hl:((rows.map fun r=>r.1).map D.int).length+[D.int x].length≤10000:=by simp;omega
  have X9:eL (Gw (aG bC (ae (aQ 2) ax)) (eL (kA (ae (eV 5) ax)))) [some (.sh (.int c)),some (.sh (.lst (hs.map aK))),some (.br (.lst (rows.map cx))),some (.sh (.int (dG hs (rows.map fun r=>r.1)))),some (.sh o4),some (.sh (.int x)),o6]=some (.lst ((rows.map fun r=>r.1).map D.int++[.int x])):=by
    have h1k:[D.int x].length≤1000:=by simp
    simp only[eL,Gw,kA,aG,ae,ax,eV,aQ,dQ,fe,cC,gT,wL,h1k,iq,Mg,hl]
  have key:∀{f g:EF} {η:cD} {u v d:D},f η=some u→g η=some v→gY [u,v]=some (.sh d)→aG gY (ae f (ae g ax)) η=some d:=fun k1 k2 k3=>by simp only[aG,ae,ax,k1,k2,cC,gT,k3]
  have hc:=key (f:=eV 1) rfl X9 hw;unfold ai;rw[hc];rfl
theorem DR{c:Int}{hs:ip}{rows:List (Int×Int)}(h6:∀x∈hs,x.1.length≤6)(hr:rows.length≤10):∀(l:bD) (b:Int) (o5 o6:fU),∃X1 X2,jm (aZ true 5) bY (l.map D.int) [some (.sh (.int c)),some (.sh (.lst (hs.map aK))),some (.br (.lst (rows.map cx))),some (.sh (.int (dG hs (rows.map fun r=>r.1)))),some (.sh (cx (b,pq hs (rows.map fun r=>r.1) b))),o5,o6]=some (.nx [some (.sh (.int c)),some (.sh (.lst (hs.map aK))),some (.br (.lst (rows.map cx))),some (.sh (.int (dG hs (rows.map fun r=>r.1)))),some (.sh (cx (ny (fun b x=>decide (pq hs (rows.map fun r=>r.1) b<pq hs (rows.map fun r=>r.1) x)) b l,pq hs (rows.map fun r=>r.1) (ny (fun b x=>decide (pq hs (rows.map fun r=>r.1) b<pq hs (rows.map fun r=>r.1) x)) b l)))),X1,X2])
  |[],b,o5,o6=>⟨o5,o6,rfl⟩
  |x::l,b,o5,o6=>by
   have hg0:=fun(o4:D)=>B3 (c:=c) h6 hr x o4 o6;rw[gy];unfold jm;have rG:aZ true 5 (.int x) [some (.sh (.int c)),some (.sh (.lst (hs.map aK))),some (.br (.lst (rows.map cx))),some (.sh (.int (dG hs (rows.map fun r=>r.1)))),some (.sh (cx (b,pq hs (rows.map fun r=>r.1) b))),o5,o6]=some [some (.sh (.int c)),some (.sh (.lst (hs.map aK))),some (.br (.lst (rows.map cx))),some (.sh (.int (dG hs (rows.map fun r=>r.1)))),some (.sh (cx (b,pq hs (rows.map fun r=>r.1) b))),some (.sh (.int x)),o6]:=rfl;rw[rG];generalize hgw:pq hs (rows.map fun r=>r.1)=G at *;have Ug:jd (cx (b,G b)) (.int 1)=some (.int (G b)):=rfl;have ht:mK (cg (ai lY (aQ 4) (eC .non))) (cg (ai Mj (aQ 6) (ai jd (aQ 4) (eC (.int 1))))) [some (.sh (.int c)),some (.sh (.lst (hs.map aK))),some (.br (.lst (rows.map cx))),some (.sh (.int (dG hs (rows.map fun r=>r.1)))),some (.sh (cx (b,G b))),some (.sh (.int x)),some (.sh (.int (G x)))]=some (decide (G b<G x)):=by have e1:lY (cx (b,G b)) .non=some (.bl false):=rfl;simp only[mK,cg,ai,aQ,eC,dQ,fe,cC,e1,Ug,EY];rfl
   by_cases hc:G b<G x
   · obtain⟨p,q,ih⟩:=DR h6 hr l x (some (.sh (.int x))) (some (.sh (.int (G x))));rw[hgw] at ih;refine⟨p,q,?_⟩;have hg:bY [some (.sh (.int c)),some (.sh (.lst (hs.map aK))),some (.br (.lst (rows.map cx))),some (.sh (.int (dG hs (rows.map fun r=>r.1)))),some (.sh (cx (b,G b))),some (.sh (.int x)),o6]=some (.nx [some (.sh (.int c)),some (.sh (.lst (hs.map aK))),some (.br (.lst (rows.map cx))),some (.sh (.int (dG hs (rows.map fun r=>r.1)))),some (.sh (cx (x,G x))),some (.sh (.int x)),some (.sh (.int (G x)))]):=by
       unfold bY;refine(aV (hg0 _)).trans ?_;refine(n5 (by rw[ht,km hc])).trans ?_;exact(cB (d:=cx (x,G x)) rfl).trans rfl
     simp only[cC,hg];rw[ih];have e:ny (fun b x=>decide (G b<G x)) b (x::l)=ny (fun b x=>decide (G b<G x)) x l:=by show ny _ (if decide (G b<G x)=true then x else b) l=_;rw[bR (km hc)]
     rw[e]
   · obtain⟨p,q,ih⟩:=DR h6 hr l b (some (.sh (.int x))) (some (.sh (.int (G x))));rw[hgw] at ih;refine⟨p,q,?_⟩;have hg:bY [some (.sh (.int c)),some (.sh (.lst (hs.map aK))),some (.br (.lst (rows.map cx))),some (.sh (.int (dG hs (rows.map fun r=>r.1)))),some (.sh (cx (b,G b))),some (.sh (.int x)),o6]=some (.nx [some (.sh (.int c)),some (.sh (.lst (hs.map aK))),some (.br (.lst (rows.map cx))),some (.sh (.int (dG hs (rows.map fun r=>r.1)))),some (.sh (cx (b,G b))),some (.sh (.int x)),some (.sh (.int (G x)))]):=by
       unfold bY;refine(aV (hg0 _)).trans ?_;exact(kG (by rw[ht,mB hc])).trans rfl
     simp only[cC,hg];rw[ih];have e:ny (fun b x=>decide (G b<G x)) b (x::l)=ny (fun b x=>decide (G b<G x)) b l:=by show ny _ (if decide (G b<G x)=true then x else b) l=_;rw[bS (by rw[mB hc];decide)]
     rw[e]
def ow(c:Int)(hs:ip)(S:bD):Int:=Ot (fun b x=>decide (pq hs S b<pq hs S x)) (tW c S)
theorem DU(h0:0≤c)(h6c:c≤6){rows:List (Int×Int)}(h6:∀x∈hs,x.1.length≤6)(hr:rows.length≤10)(mz:tW c (rows.map fun r=>r.1)≠[]):ik [.int c,.lst (hs.map aK),.lst (rows.map cx)]=some (.sh (cx (ow c hs (rows.map fun r=>r.1),pq hs (rows.map fun r=>r.1) (ow c hs (rows.map fun r=>r.1))))):=by
  obtain⟨n,l,en⟩:∃n l,tW c (rows.map fun r=>r.1)=n::l:=by
    cases e:tW c (rows.map fun r=>r.1) with
    |nil=>exact absurd e mz
    |cons n l=>exact⟨n,l,rfl⟩
  have hw0:=yH (hs:=hs) (ms:=rows.map fun r=>r.1) (S:=.lst ((rows.map fun r=>r.1).map D.int)) rfl h6;have hu:=QX h0 h6c rows;rw[en] at hu;refine dU ?_;show lH [some (.sh (.int c)),some (.sh (.lst (hs.map aK))),some (.br (.lst (rows.map cx))),none,none,none,none]=_;unfold lH;refine(aV (cB (d:=.int (dG hs (rows.map fun r=>r.1))) ?_)).trans ?_
  ·simp only[aG,ae,ax,eV,aQ,dQ,fe,cC,gT,wL,hw0]
  refine(aV (cB (d:=.non) rfl)).trans ?_;simp only[lP,lQ];have hl:ia (aG dB (ae (eV 0) (ae (aQ 2) ax))) [some (.sh (.int c)),some (.sh (.lst (hs.map aK))),some (.br (.lst (rows.map cx))),some (.sh (.int (dG hs (rows.map fun r=>r.1)))),some (.sh .non),none,none]=some ((n::l).map D.int):=by simp only[ia,aG,ae,ax,eV,aQ,dQ,fe,cC,gT,hu,fu]
  obtain⟨p,q,hw⟩:=DR (c:=c) h6 hr l n (some (.sh (.int n))) (some (.sh (.int (pq hs (rows.map fun r=>r.1) n))));have Yb:jm (aZ true 5) bY ((n::l).map D.int) [some (.sh (.int c)),some (.sh (.lst (hs.map aK))),some (.br (.lst (rows.map cx))),some (.sh (.int (dG hs (rows.map fun r=>r.1)))),some (.sh .non),none,none]=jm (aZ true 5) bY (l.map D.int) [some (.sh (.int c)),some (.sh (.lst (hs.map aK))),some (.br (.lst (rows.map cx))),some (.sh (.int (dG hs (rows.map fun r=>r.1)))),some (.sh (cx (n,pq hs (rows.map fun r=>r.1) n))),some (.sh (.int n)),some (.sh (.int (pq hs (rows.map fun r=>r.1) n)))]:=by
    rw[gy]
    conv=>lhs;unfold jm
    have rG:aZ true 5 (.int n) [some (.sh (.int c)),some (.sh (.lst (hs.map aK))),some (.br (.lst (rows.map cx))),some (.sh (.int (dG hs (rows.map fun r=>r.1)))),some (.sh .non),none,none]=some [some (.sh (.int c)),some (.sh (.lst (hs.map aK))),some (.br (.lst (rows.map cx))),some (.sh (.int (dG hs (rows.map fun r=>r.1)))),some (.sh .non),some (.sh (.int n)),none]:=rfl;rw[rG];have hg:bY [some (.sh (.int c)),some (.sh (.lst (hs.map aK))),some (.br (.lst (rows.map cx))),some (.sh (.int (dG hs (rows.map fun r=>r.1)))),some (.sh .non),some (.sh (.int n)),none]=some (.nx [some (.sh (.int c)),some (.sh (.lst (hs.map aK))),some (.br (.lst (rows.map cx))),some (.sh (.int (dG hs (rows.map fun r=>r.1)))),some (.sh (cx (n,pq hs (rows.map fun r=>r.1) n))),some (.sh (.int n)),some (.sh (.int (pq hs (rows.map fun r=>r.1) n)))]):=by
      unfold bY;refine(aV (B3 (c:=c) h6 hr n .non none)).trans ?_;refine(n5 ?_).trans ?_
      ·rfl
      exact(cB (d:=cx (n,pq hs (rows.map fun r=>r.1) n)) rfl).trans rfl
    simp only[cC,hg]
  refine(aV ((tq hl).trans (Yb.trans hw))).trans ?_;refine jR ?_;have e:ny (fun b x=>decide (pq hs (rows.map fun r=>r.1) b<pq hs (rows.map fun r=>r.1) x)) n l=ow c hs (rows.map fun r=>r.1):=by unfold ow;rw[en];rfl
  rw[e];rfl
def rowsOf{α:Type}(g:bD→Int→α):bD→bD→List (Int×α)
  |_,[]=>[]
  |S,n::l=>(n,g S n)::rowsOf g (S++[n]) l
theorem uj{α:Type}(g:bD→Int→α)(n:Int):∀(l S:bD),rowsOf g S (l++[n])=rowsOf g S l++[(n,g (S++l) n)]
  |[],S=>by rw[uv];rfl
  |x::l,S=>by
   show(x,g S x)::rowsOf g (S++[x]) (l++[n])=(x,g S x)::rowsOf g (S++[x]) l++[(n,g (S++x::l) n)]
   rw[uj g n l (S++[x])];simp
theorem j8{α:Type}(g:bD→Int→α):∀(l S:bD),((rowsOf g S l).map fun r=>r.1)=l
  |[],_=>rfl
  |x::l,S=>by show x::((rowsOf g (S++[x]) l).map fun r=>r.1)=_;rw[j8 g l]
theorem kN{α:Type}(g:bD→Int→α)(l S:bD):(rowsOf g S l).length=l.length:=by have:=hJ List.length (j8 g l S);rwa[dX] at this
theorem B4{S:bD}{n:Int}:n∈tW c S↔(0≤n∧n<c)∧n∉S:=by
  unfold tW;rw[j3,lR];constructor
  ·rintro⟨⟨i,hi,rfl⟩,h⟩;have:=xt.mp hi;exact⟨by omega,by simpa using h⟩
  ·rintro⟨⟨h1,h2⟩,h3⟩;exact⟨⟨n.toNat,xt.mpr (by omega),by omega⟩,by simpa using h3⟩
structure QY (c:Int) (S:bD):Prop where
  nd:S.Nodup
  rg:∀n∈S,0≤n∧n<c
theorem QY.ne{S:bD}(h:QY c S)(hl:(S.length:Int)<c):tW c S≠[]:=fun e=>by
  have:=List.Nodup.length_le_of_subset (l₁:=(List.range c.toNat).map fun(i:Nat)=>(i:Int)) (l₂:=S) (by
    refine List.Pairwise.map (R:=fun a b:Nat=>a≠b) _ (fun a b xD e=>xD (by omega)) List.nodup_range) fun x hx=>by obtain⟨i,hi,rfl⟩:=lR.mp hx;have:=xt.mp hi;refine Classical.byContradiction fun hn=>?_;have:((i:Nat):Int)∈tW c S:=B4.mpr ⟨by omega,hn⟩;rw[e] at this;nomatch this
  simp at this;omega
theorem QY.snoc{S:bD}(h:QY c S){n:Int}(hn:n∈tW c S):QY c (S++[n]):=by
  obtain⟨a,b⟩:=B4.mp hn;refine⟨List.nodup_append.mpr ⟨h.nd,by simp,fun x hx z hz=>?_⟩,fun x hx=>?_⟩
  ·simp at hz;subst hz;intro e;subst e;exact b hx
  · rcases sI.mp hx with hx|hx
    ·exact h.rg x hx
    ·simp at hx;subst hx;exact a
def KG(c:Int)(hs:ip):Nat→bD→bD
  |0,S=>S
  |k+1,S=>KG c hs k (S++[ow c hs S])
theorem Hh{S:bD}(h:QY c S)(hl:(S.length:Int)<c):ow c hs S∈tW c S:=Hg _ (h.ne hl)
theorem B5{c:Int}(h0:0≤c)(c6:c≤6){hs:ip}(h6:∀x∈hs,x.1.length≤6)(A:D):∀(k:Nat) {S:bD} (n:Nat),QY c S→(S.length:Int)+k=c→k<n→iW di gw n [some (.sh A),some (.sh (.int c)),some (.sh (.lst (hs.map aK))),some (.ol ((rowsOf (pq hs) [] S).map cx))]=some (.nx [some (.sh A),some (.sh (.int c)),some (.sh (.lst (hs.map aK))),some (.ol ((rowsOf (pq hs) [] (KG c hs k S)).map cx))])
  |0,S,n,hS,e,hn=>by
   obtain⟨m,rfl⟩:∃m,n=m+1:=⟨n-1,by omega⟩
   unfold iW;have ht:di [some (.sh A),some (.sh (.int c)),some (.sh (.lst (hs.map aK))),some (.ol ((rowsOf (pq hs) [] S).map cx))]=some false:=by simp only[di,cg,ai,sF,ae,ax,aQ,kB,dQ,fe,cC,gT,yn,dX,kN];rw[mB (by omega)]
   rw[ht];rfl
  |k+1,S,n,hS,e,hn=>by
   obtain⟨m,rfl⟩:∃m,n=m+1:=⟨n-1,by omega⟩
   have Yc:=Hh (hs:=hs) hS (by omega);unfold iW;have ht:di [some (.sh A),some (.sh (.int c)),some (.sh (.lst (hs.map aK))),some (.ol ((rowsOf (pq hs) [] S).map cx))]=some true:=by simp only[di,cg,ai,sF,ae,ax,aQ,kB,dQ,fe,cC,gT,yn,dX,kN];rw[km (by omega)]
   have rn:=DU h0 c6 (hs:=hs) (rows:=rowsOf (pq hs) [] S) h6 (by rw[kN];omega) (by rw[j8];exact hS.ne (by omega));rw[j8] at rn;have hlen:((rowsOf (pq hs) [] S).map cx).length<10000:=by rw[dX,kN];omega
   have hsn:rowsOf (pq hs) [] (S++[ow c hs S])=rowsOf (pq hs) [] S++[(ow c hs S,pq hs S (ow c hs S))]:=uj _ _ _ _;have hg:gw [some (.sh A),some (.sh (.int c)),some (.sh (.lst (hs.map aK))),some (.ol ((rowsOf (pq hs) [] S).map cx))]=some (.nx [some (.sh A),some (.sh (.int c)),some (.sh (.lst (hs.map aK))),some (.ol ((rowsOf (pq hs) [] (S++[ow c hs S])).map cx))]):=by rw[hsn];simp only[gw,e8,aG,ae,ax,eV,aQ,dQ,fe,cC,gT,rn,hlen,iq,lP,lQ,List.map_append,gy,mC]
   rw[ht];simp only[cC,iq,hg];exact B5 h0 c6 h6 A k m (hS.snoc Yc) (by simp;omega) (by omega)
theorem KJ(h0:0≤c)(c6:c≤6)(h6:∀x∈hs,x.1.length≤6)(A:D):aJ [A,.int c,.lst (hs.map aK)]=some (.ol ((rowsOf (pq hs) [] (KG c hs c.toNat [])).map cx)):=by refine dU ?_;show jW [some (.sh A),some (.sh (.int c)),some (.sh (.lst (hs.map aK))),none]=_;unfold jW;refine(aV (uS (d:=[]) rfl)).trans ?_;have hw:=B5 h0 c6 h6 A c.toNat (S:=[]) 100 ⟨by simp,fun _ z=>nomatch z⟩ (by simp;omega) (by omega);refine(aV (show qf 100 _ _ _=some (.nx _) from hw)).trans ?_;rfl
abbrev nB(hs:ip)(n:Int):Int:=ak (aS hs n)
def eM(hs:ip)(n:Int):bD×bD:=([-(nB hs n),n],[n,nB hs n])
def gM:EF:=gA (ae (xH (ai jd (aQ 0) (eC (.int 1)))) (ae (ai jd (eV 0) (eC (.int 0))) ax))
theorem Uh(n b:Int):gM [some (.sh (.tup ([n,b].map D.int)))]=some (.tup ([-b,n].map D.int)):=rfl
theorem Ou(hs:ip):∀l:bD,yr gM (l.map fun n=>D.tup ((eM hs n).2.map D.int))=some (l.map (eM hs))
  |[]=>rfl
  |n::l=>by
   have ih:=Ou hs l;rw[gy,gy];show(kZ ([n,nB hs n].map D.int)).bind _=_;rw[iK];show(match gM [some (.sh (.tup ([n,nB hs n].map D.int)))] with
     |some (.tup ks)=>(kZ ks).bind fun kk=>(yr gM (l.map fun n=>D.tup ((eM hs n).2.map D.int))).map ((kk,[n,nB hs n])::·)
     |_=>none)=_
   rw[Uh];show(kZ ([-(nB hs n),n].map D.int)).bind _=_;rw[iK,ih];rfl
def fL(c:Int):bD:=(List.range c.toNat).map fun(i:Nat)=>(0:Int)+(i:Int)
theorem Hi(c:Int):(fL c).Nodup:=List.Pairwise.map (R:=fun a b:Nat=>a≠b) _ (fun a b xD e=>xD (by omega)) List.nodup_range
def DV(c:Int)(hs:ip):bD:=(jS ((fL c).map (eM hs))).map fun e=>e.1.getD 1 0
theorem Ui(c:Int)(hs:ip):jS ((fL c).map (eM hs))=(DV c hs).map (eM hs):=by unfold DV;rw[ko];refine(List.map_id _).symm.trans (List.map_congr_left fun e he=>?_);have:=(lg _).mem_iff.mp he;obtain⟨n,_,rfl⟩:=lR.mp this;rfl
theorem Hj(c:Int)(hs:ip):(DV c hs).Perm (fL c):=by
  have h1:=(lg ((fL c).map (eM hs))).map fun e=>e.1.getD 1 0;rw[ko] at h1;have e:(fL c).map ((fun e:bD×bD=>e.1.getD 1 0)∘eM hs)=fL c:=by refine(List.map_congr_left fun n _=>?_).trans (List.map_id _);rfl
  rw[e] at h1;exact h1
theorem B6(c:Int)(hs:ip):(((fL c).map (eM hs)).map (·.1)).Nodup:=by
  rw[ko];have:=Hi c;unfold List.Nodup at this⊢;rw[List.pairwise_map];exact this.imp fun xD e=>xD (by
    have e':[-(nB hs _),_]=[-(nB hs _),_]:=e;injection e' with _ e2;injection e2)
theorem KL(h0:0≤c)(c6:c≤6)(hs:ip)(C:PySem.Addr):aN [.obj C,.int c,.lst (hs.map aK)]=some (.ol (((DV c hs).map fun n=>(n,nB hs n)).map cx)):=by
  refine dU ?_;show kK [some (.sh (.obj C)),some (.sh (.int c)),some (.sh (.lst (hs.map aK))),none]=_;unfold kK;have hr:(if c≤10000∧-10000≤c then some (cA 0 c.toNat) else none)=some ((fL c).map D.int):=by rw[bR ⟨by omega,by omega⟩,gK];rfl
  have q:fA (aZ true 0) iV (gA (ae (eV 0) (ae (aG bW (ae (eV 1) (ae (eV 0) ax))) ax))) ((fL c).map D.int) (List.replicate 1 none++[some (.sh (.lst (hs.map aK)))])=some ((fL c).map fun n=>D.tup ((eM hs n).2.map D.int)):=by
    refine gf D.int _ fun n _=>⟨[some (.sh (.int n)),some (.sh (.lst (hs.map aK)))],rfl,rfl,?_⟩
    simp only[gA,aG,ae,ax,eV,dQ,fe,cC,gT,T8];rfl
  refine(aV (cB (d:=.lst ((fL c).map fun n=>D.tup ((eM hs n).2.map D.int))) ?_)).trans ?_
  ·simp only[eL,dg,gq,aQ,dQ,fe,cC,gT,hr,ky,gy,mC,yM,q]
  refine j5 ?_;have hl:(((fL c).map (eM hs)).map (·.1)).Nodup∧((fL c).map (eM hs)).length<64∧(((fL c).map (eM hs)).all fun e=>!e.1.isEmpty)=true:=by refine⟨B6 c hs,by rw[dX];unfold fL;rw[dX,List.length_range];omega,?_⟩;rw[List.all_map,List.all_eq_true];intro n _;rfl
  have Tr:v9 0 [some (.sh (.obj C)),some (.sh (.int c)),some (.sh (.lst (hs.map aK))),some (.sh (.lst ((fL c).map fun n=>D.tup ((eM hs n).2.map D.int))))]=true:=rfl;show n9 (eV 3) gM [some (.sh (.obj C)),some (.sh (.int c)),some (.sh (.lst (hs.map aK))),some (.sh (.lst ((fL c).map fun n=>D.tup ((eM hs n).2.map D.int))))]=_;unfold n9;rw[bR Tr];simp only[eV,dQ,fe,cC,Ou];rw[bR hl,Ui,ko,ko];rfl
theorem B7(c:Int)(hs:ip):∀(k:Nat) (S:bD),(KG c hs k S).length=S.length+k
  |0,S=>rfl
  |k+1,S=>by show(KG c hs k (S++[ow c hs S])).length=_;rw[B7 c hs k];simp;omega
theorem KN(h0:0≤c)(hs:ip):((DV c hs).length:Int)=c:=by rw[(Hj c hs).length_eq];unfold fL;rw[dX,List.length_range];omega
theorem B8{x:D}{xs:eY}{t:String}(hx:fu x=some xs)(Ug:∀i,jd x (.int i)=pE xs i)(hlen:kB [x]=some (.int xs.length))(Ro:Lp x=some t)(ht:t="tuple"∨t="list")(hl:xs.length≤1000)(CF:∀y∈xs,dj n [y,y]=some (.sh (.bl true))):dj (n+1) [x,x]=some (.sh (.bl true)):=by
  refine dU ?_;show g_same (dj n) [some (.br x),some (.br x),none]=_;unfold g_same;have e1:∀T o,(sY T (aQ 1)) [some (Slot.br x),some (Slot.br x),o]=some (.bl (Jr T t)):=fun T o=>by simp only[sY,aQ,dQ,fe,cC,Ro,gT]
  have e0:∀T o,(sY T (aQ 0)) [some (Slot.br x),some (Slot.br x),o]=some (.bl (Jr T t)):=fun T o=>by simp only[sY,aQ,dQ,fe,cC,Ro,gT]
  have W2:mK (cg (sY "tuple" (aQ 1))) (cg (sY "list" (aQ 1))) [some (Slot.br x),some (Slot.br x),none]=some true:=by simp only[mK,cg,e1,cC];rcases ht with rfl|rfl<;>rfl
  obtain⟨η',e,o2,rfl⟩:=rF (b:=aZ true 2) (g:=wA (dj n)) (ds:=cA 0 xs.length) (η:=[some (.br x),some (.br x),none]) (fun _ η=>∃o2,η=[some (.br x),some (.br x),o2]) 0 ⟨none,rfl⟩ (fun i d η hd ⟨o2,e⟩=>by
    subst e;rw[gK,nI,nI] at hd;obtain⟨j,hj,rfl⟩:=pv.mp hd;obtain⟨j',Rr,rfl⟩:=pv.mp hj;have hjl:j'<xs.length:=by have h1:=List.mem_of_getElem? Rr;simpa using h1
    refine⟨[some (.br x),some (.br x),some (.sh (.int (0+(j':Int))))],[some (.br x),some (.br x),some (.sh (.int (0+(j':Int))))],rfl,.inl ?_,_,rfl⟩;unfold wA;have X7:pE xs (0+(j':Int))=some xs[j']:=by rw[Int.zero_add];exact uN (by simp[hjl])
    have hc:=CF xs[j'] (by simp);refine(kG ?_).trans rfl;simp only[jh,cg,aG,ae,ax,ai,aQ,dQ,fe,cC,gT,Ug,X7,hc,Bool.not_true])
  refine mQ ((n5 W2).trans ?_);refine(aV (η':=[some (.br x),some (.br x),none]) ((kG ?_).trans rfl)).trans ?_
  ·simp only[mK,cg,ai,e0,e1,cC,Qx];simp
  refine(aV (η':=[some (.br x),some (.br x),none]) ((kG ?_).trans rfl)).trans ?_
  ·simp only[cg,ai,sF,ae,ax,aQ,dQ,fe,cC,gT,hlen,MD];simp
  refine(aV ((tq (ds:=cA 0 xs.length) ?_).trans e)).trans rfl;simp only[gq,sF,ae,ax,aQ,dQ,fe,cC,gT,hlen];rw[bR ⟨by omega,by omega⟩]
  congr 1
theorem same_int(n:Nat)(i:Int):dj (n+1) [.int i,.int i]=some (.sh (.bl true)):=by refine dU ?_;show g_same (dj n) [some (.br (.int i)),some (.br (.int i)),none]=_;unfold g_same;refine(aV (η':=[some (.br (.int i)),some (.br (.int i)),none]) ((kG rfl).trans rfl)).trans ?_;refine(aV (η':=[some (.br (.int i)),some (.br (.int i)),none]) ((kG rfl).trans rfl)).trans ?_;refine mQ ((n5 rfl).trans (jR ?_));simp[uD,Mb,cg,sY,aQ,Lp,Jr,ai,jC]
theorem KP(n:Nat):dj (n+1) [.non,.non]=some (.sh (.bl true)):=rfl
theorem B9{xs:eY}(hl:xs.length≤1000)(CF:∀y∈xs,dj n [y,y]=some (.sh (.bl true))):dj (n+1) [.tup xs,.tup xs]=some (.sh (.bl true)):=B8 rfl (fun _=>rfl) rfl rfl (.inl rfl) hl CF
theorem KQ{xs:eY}(hl:xs.length≤1000)(CF:∀y∈xs,dj n [y,y]=some (.sh (.bl true))):dj (n+1) [.lst xs,.lst xs]=some (.sh (.bl true)):=B8 rfl (fun _=>rfl) rfl rfl (.inr rfl) hl CF
theorem KR{α:Type}(row:α→D)(nm:α→Int)(Ub:∀x,(row x).xm=true)(h0:∀x,jd (row x) (.int 0)=some (.int (nm x)))(l:List α):bC [.lst (l.map row)]=some (.ol ((l.map nm).map D.int)):=by
  refine dU ?_;show fS [some (.br (.lst (l.map row)))]=_;unfold fS;refine j5 ?_;have q:fA (aZ false 0) iV (ai jd (eV 0) (eC (.int 0))) (l.map row) (List.replicate 1 none++[])=some ((l.map nm).map D.int):=by
    rw[ko];refine gf row _ fun r _=>⟨[some (.br (row r))],rfl,rfl,?_⟩
    simp only[ai,eV,eC,dQ,Ub,iq,cC,h0,Function.comp]
  simp only[dg,CZ,dQ,cC,ky,mC,q]
structure yI (Fo:eY→fU) (C:Addr) (c:Int) (H:D) (names:bD):Prop where
  len:(names.length:Int)=c
  ex:∃rows:eY,Fo [.obj C,.int c,H]=some (.ol rows)∧rows.length=names.length∧(∀k:Nat,bC [.lst (rows.take k)]=some (.ol ((names.take k).map D.int)))∧fA (aZ true 0) iV (ai jd (eV 0) (eC (.int 0))) rows (List.replicate 1 none++[])=some (names.map D.int)
theorem my{α:Type}{Fo:eY→fU}{H:D}(row:α→D)(nm:α→Int)(Ub:∀x,(row x).xm=true)(h0:∀x,jd (row x) (.int 0)=some (.int (nm x)))(l:List α)(hl:(l.length:Int)=c)(h:Fo [.obj C,.int c,H]=some (.ol (l.map row))):yI Fo C c H (l.map nm):=by
  refine⟨by rw[dX];exact hl,l.map row,h,by rw[dX,dX],fun k=>?_,?_⟩
  ·rw[←List.map_take,←List.map_take];exact KR row nm Ub h0 _
  · rw[ko];refine gf row _ fun r _=>⟨[some (.sh (row r))],rfl,rfl,?_⟩
    simp only[ai,eV,eC,dQ,cC,h0,Function.comp]
theorem KS(r:Int×Option Rat):(bX r).xm=true:=by unfold bX;rw[qT,pX,oQ,pX,tV];rfl
def fN(a:nr)(k:Int):Addr:=if k=0 then a.bj else if k=1 then a.aP else a.aD
def z9(k:Int):eY→fU:=if k=0 then aN else if k=1 then aJ else aB
theorem oz{α:Type}{a:nr}(hA:rQ a)(k:Int)(x y w:α):List.lookup (fN a k) [(a.bj,x),(a.aP,y),(a.aD,w)]=some (if k=0 then x else if k=1 then y else w):=by
  have h1:(a.aP==a.bj)=false:=by simpa using fun e=>hA.zU e.symm
  have h2:(a.aD==a.bj)=false:=by simpa using fun e=>hA.zV e.symm
  have h3:(a.aD==a.aP)=false:=by simpa using fun e=>hA.xN e.symm
  unfold fN;by_cases h:k=0
  ·simp[h,List.lookup]
  · by_cases h':k=1
    ·simp[h',List.lookup,h1]
    ·simp[h,h',List.lookup,h2,h3]
theorem KW(a:nr)(k:Int):uf a [.int k]=some (.sh (.obj (fN a k))):=by
  refine dU ?_;show Kn a [some (.sh (.int k))]=_;unfold Kn fN;have e0:∀j:Int,cg (ai jf (aQ 0) (eC (.int j))) [some (.sh (.int k))]=some (k==j):=fun j=>by simp only[cg,ai,aQ,eC,dQ,cC,jC]
  by_cases h:k=0
  ·rw[bR h];exact mQ ((n5 (by rw[e0,h];rfl)).trans rfl)
  · rw[bS h];refine(aV ((kG (by rw[e0];simpa using h)).trans rfl)).trans ?_;by_cases h':k=1
    ·rw[bR h'];exact mQ ((n5 (by rw[e0,h'];rfl)).trans rfl)
    ·rw[bS h'];refine(aV ((kG (by rw[e0];simpa using h')).trans rfl)).trans rfl
theorem Np(a:nr)(h0:0≤c)(c6:c≤6)(h6:∀x∈hs,x.1.length≤6)(hh:∀h∈hs,1≤h.2)(hN:ak hs≤2^105)(k:Int):∃names,yI (z9 k) (fN a k) c (.lst (hs.map aK)) names:=by
  unfold z9;by_cases h:k=0
  ·rw[bR h];exact⟨_,my cx (fun r=>r.1) (fun _=>rfl) (fun _=>rfl) _ (by rw[dX];exact KN h0 hs) (KL h0 c6 hs _)⟩
  · rw[bS h];by_cases h':k=1
    ·rw[bR h'];refine⟨_,my cx (fun r=>r.1) (fun _=>rfl) (fun _=>rfl) _ ?_ (KJ h0 c6 h6 _)⟩;rw[kN,B7];simp;omega
    · rw[bS h'];obtain⟨rest,t,hrl⟩:=DQ h0 c6 hh hN c.toNat (B2 h0 hh) (by simp;omega)
      exact⟨_,my bX (fun r=>r.1) KS (fun _=>rfl) _ (by omega) (z8 h0 c6 hh hN _ t (by omega))⟩
abbrev wM:D:=.lst [.tup [.tup [.int 0],.int 3],.tup [.tup [.int 1],.int 4]]
theorem DX(C:Addr):aN [.obj C,.int 2,wM]=some (.ol ([((1:Int),(4:Int)),(0,3)].map cx)):=by
  have h:=KL (c:=2) (by decide) (by decide) [([0],3),([1],4)] C;have e:DV 2 [([0],3),([1],4)]=[1,0]:=by
    unfold DV;have q:jS ((fL 2).map (eM [([0],3),([1],4)]))=[([-4,1],[1,4]),([-3,0],[0,3])]:=by
      refine yq (B6 2 _) ?_ ?_
      ·show List.Perm _ [([-3,0],[0,3]),([-4,1],[1,4])];exact List.Perm.swap _ _ _
      ·simp[HT.lexLt]
    rw[q];rfl
  rw[e] at h;exact h
theorem Ca(C:Addr):aJ [.obj C,.int 2,wM]=some (.ol ([((1:Int),(240:Int)),(0,180)].map cx)):=rfl
theorem Cb(C:Addr):aB [.obj C,.int 2,wM]=some (.ol ([((1:Int),(1:Int),(4:Int)),(0,1,3)].map fun r=>D.tup [.int r.1,.tup [.int r.2.1,.int r.2.2]])):=rfl
theorem Hk(a:nr)(k:Int):yI (z9 k) (fN a k) 2 wM [1,0]:=by
  unfold z9;by_cases h:k=0
  ·rw[bR h];exact my cx (fun r=>r.1) (fun _=>rfl) (fun _=>rfl) [((1:Int),(4:Int)),(0,3)] rfl (DX _)
  · rw[bS h];by_cases h':k=1
    ·rw[bR h'];exact my cx (fun r=>r.1) (fun _=>rfl) (fun _=>rfl) [((1:Int),(240:Int)),(0,180)] rfl (Ca _)
    ·rw[bS h'];exact my (fun r:Int×Int×Int=>D.tup [.int r.1,.tup [.int r.2.1,.int r.2.2]]) (fun r=>r.1) (fun _=>rfl) (fun _=>rfl) [((1:Int),(1:Int),(4:Int)),(0,1,3)] rfl (Cb _)
theorem DY(ds:eY)(k:Nat):cutD ds none (some (k:Int))=ds.take k:=by
  unfold cutD;rw[HT.Ig,HT.uM,List.drop_zero,Nat.sub_zero];by_cases h:k≤ds.length
  ·rw[Nat.min_eq_left h]
  ·rw[Nat.min_eq_right (by omega),List.take_of_length_le (cN _),List.take_of_length_le (by omega)]
theorem wN{p lo hi:Int}{j:Nat}(h1:η[i]?=some (some (.sh (.int p))))(h2:η[j]?=some (some (.sh (.int hi)))):mK (cg (ai Gy (aQ i) (eC (.int lo)))) (cg (ai Mj (aQ i) (aQ j))) η=some (decide (p<lo)||decide (p>hi)):=by
  have e1:cg (ai Gy (aQ i) (eC (.int lo))) η=some (decide (p<lo)):=by simp only[cg,ai,aQ,eC,h1,cC,yn]
  have e2:cg (ai Mj (aQ i) (aQ j)) η=some (decide (p>hi)):=by simp only[cg,ai,aQ,h1,h2,cC,EY]
  unfold mK;rw[e1,e2];cases decide (p<lo)<;>rfl
theorem KY{a:nr}(hA:rQ a){k:Int}{H:D}{names:bD}(o:yI (z9 k) (fN a k) c H names)(p:Int):bw a [.obj (fN a k),.int c,H,.int p]=some (if p<1∨c<p then .pn a.ag .non else .ol ((names.take p.toNat).map D.int)):=by
  refine dU ?_;show kL a [some (.sh (.obj (fN a k))),some (.sh (.int c)),some (.sh H),some (.sh (.int p))]=_;unfold kL;have ht:=wN (lo:=1) (p:=p) (hi:=c) (i:=3) (j:=1) (η:=[some (.sh (.obj (fN a k))),some (.sh (.int c)),some (.sh H),some (.sh (.int p))]) rfl rfl;by_cases h:p<1∨c<p
  · rw[bR h];refine mQ ((n5 ?_).trans rfl);rw[ht];rcases h with h|h
    ·rw[km h];rfl
    ·rw[km (show p>c from h),Bool.or_true]
  · rw[bS h];obtain⟨h1,h2⟩:=not_or.mp h;refine(aV ((kG ?_).trans rfl)).trans ?_
    ·rw[ht,mB h1,mB (show ¬ p>c from h2)];rfl
    refine j5 ?_;obtain⟨rows,e1,_,e2,_⟩:=o.ex;have lk:=oz hA k aN aJ aB;have Yd:List.lookup (fN a k) [(a.bj,aN),(a.aP,aJ),(a.aD,aB)]=some (z9 k):=lk;obtain⟨n,rfl⟩:∃n:Nat,p=(n:Int):=⟨p.toNat,by omega⟩
    simp only[nX,eL,lB,mj,aG,eV,aQ,eC,vL,nZ,ae,ax,dQ,fe,cC,gT,Yd,e1,DY,e2,Int.toNat_natCast]
theorem Aa{a:nr}(hA:rQ a){k:Int}{H:D}{names:bD}(o:yI (z9 k) (fN a k) c H names)(c6:c≤6)(p:Int):aA a [.obj (fN a k),.int c,H,.int p]=some (if p<1∨c<p then .pn a.ag .non else .sh (.tup ((iX (names.take p.toNat)).map D.int))):=by
  refine dU ?_;show lI a [some (.sh (.obj (fN a k))),some (.sh (.int c)),some (.sh H),some (.sh (.int p))]=_;unfold lI;have lk:=oz hA k (bw a) (bw a) (bw a);have e:(if k=0 then bw a else if k=1 then bw a else bw a)=bw a:=by
    split
    ·rfl
    ·split<;>rfl
  rw[e] at lk;have hs:=KY hA o p;have hm:mX [(a.bj,bw a),(a.aP,bw a),(a.aD,bw a)] (eV 0) (ae (eV 1) (ae (eV 2) (ae (eV 3) ax))) [some (.sh (.obj (fN a k))),some (.sh (.int c)),some (.sh H),some (.sh (.int p))]=some (if p<1∨c<p then .pn a.ag .non else .ol ((names.take p.toNat).map D.int)):=by simp only[mX,eV,ae,ax,dQ,fe,cC,gT,lk,hs]
  unfold zR;rw[hm];by_cases h:p<1∨c<p
  ·rw[bR h,bR h];rfl
  · rw[bS h,bS h];have hl:(names.take p.toNat).length<64:=by
      have:=o.len;rw[List.length_take];omega
    simp only[cC,iK,bR hl]
theorem wO{a:nr}(hA:rQ a)(h0:0≤c)(c6:c≤6)(hh:∀h∈hs,1≤h.2)(hN:ak hs≤2^105)(t:Run c hs [] L rest)(hl:rest.length≤6)(p:Int):bP a [.int c,.lst (hs.map aK),.int p]=some (if p<0∨c<p then .pn a.ag .non else .ol (hs.map fun h=>bz (eR h.1 (rest.take p.toNat)))):=by
  refine dU ?_;show jx a [some (.sh (.int c)),some (.sh (.lst (hs.map aK))),some (.sh (.int p)),none]=_;unfold jx;have ht:=wN (lo:=0) (p:=p) (hi:=c) (i:=2) (j:=0) (η:=[some (.sh (.int c)),some (.sh (.lst (hs.map aK))),some (.sh (.int p)),none]) rfl rfl;by_cases h:p<0∨c<p
  · rw[bR h];refine mQ ((n5 ?_).trans rfl);rw[ht];rcases h with h|h
    ·rw[km h];rfl
    ·rw[km (show p>c from h),Bool.or_true]
  · rw[bS h];obtain⟨h1,h2⟩:=not_or.mp h;refine(aV ((kG ?_).trans rfl)).trans ?_
    ·rw[ht,mB h1,mB (show ¬ p>c from h2)];rfl
    have lk:=oz hA 2 aN aJ aB;have Yd:List.lookup a.aD [(a.bj,aN),(a.aP,aJ),(a.aD,aB)]=some aB:=lk;have ho:=z8 h0 c6 hh hN (.obj a.aD) t hl;obtain⟨n,rfl⟩:∃n:Nat,p=(n:Int):=⟨p.toNat,by omega⟩
    refine(aV (cB (d:=.lst ((rest.take n).map bX)) ?_)).trans ?_
    ·simp only[eL,lB,mj,aG,eV,aQ,eC,zJ,vL,nZ,ae,ax,dQ,fe,cC,gT,Yd,ho,DY,List.map_take]
    simp only[lP,lQ];refine j5 ?_;rw[Int.toNat_natCast];have q:fA (nC 2 (df (aZ true 0) (df (aZ true 1) nA))) iV (aG cz (ae (eV 0) (ae (aQ 2) ax))) (hs.map aK) (List.replicate 2 none++[some (.sh (.lst ((rest.take n).map bX)))])=some (hs.map fun h=>bz (eR h.1 (rest.take n))):=by
      refine gf aK _ fun h _=>⟨[some (.sh (.tup (h.1.map D.int))),some (.sh (.int h.2)),some (.sh (.lst ((rest.take n).map bX)))],rfl,rfl,?_⟩
      simp only[aG,eV,aQ,ae,ax,dQ,fe,cC,gT,Oq]
    simp only[dg,ia,eV,dQ,fe,cC,fu,ky,gy,mC,yM,q]
theorem Nq(a:nr):pe a [.exc a.ag]=some (.ol [.str "NoPlaces"]):=by refine dU ?_;show zZ a [some (.sh (.exc a.ag)),none]=_;simp[zZ,bH,ni,kA,ax,kD,cg,rL,eV,e8,eC,cn,yj,jh,List.lookup]
theorem Uj:jf (.lst [.str "NoPlaces"]) (.lst [.str "NoPlaces"])=some (.bl true):=rfl
theorem Nr{ok:List Addr}{j:Nat}{t:TF}{F1:eY→fU}{QI:LF}{tb:List (Addr×(eY→fU))}{fo:EF}{fs:LF}{b:Bool}(h1:t η=some b)(h2:(if b=true then(QI η).bind F1 else mX tb fo fs η)=some (.pn C .non))(h3:ok.contains C=true):BH ok i j t F1 QI tb fo fs η=some (.nx (((η.set i (some (.sh (.exc C)))).set j (some (.sh (.exc C)))).set i none)):=by
  unfold BH;rw[h1];simp only[cC,h2,h3,iq]
theorem yJ{a:nr}{k p:Int}{H:D}(h3:k=3→bP a [.int c,H,.int p]=some (.pn a.ag .non))(hk:k≠3→mX [(a.bj,aA a),(a.aP,aA a),(a.aD,aA a)] (aG (uf a) (ae (eV 0) ax)) (ae (eV 1) (ae (eV 2) (ae (eV 3) ax))) [some (.sh (.int k)),some (.sh (.int c)),some (.sh H),some (.sh (.int p)),some (.sh .non),none]=some (.pn a.ag .non)):iN a [.int k,.int c,H,.int p]=some (.sh (.bl true)):=by
  refine dU ?_;show tR a [some (.sh (.int k)),some (.sh (.int c)),some (.sh H),some (.sh (.int p)),none,none]=_;unfold tR;refine(aV (η':=[some (.sh (.int k)),some (.sh (.int c)),some (.sh H),some (.sh (.int p)),some (.sh .non),none]) rfl).trans ?_;refine(aV (η':=[some (.sh (.int k)),some (.sh (.int c)),some (.sh H),some (.sh (.int p)),some (.sh (.exc a.ag)),none]) (Nr (b:=k==3) (C:=a.ag) ?_ ?_ ?_)).trans ?_
  ·simp only[cg,ai,aQ,eC,dQ,cC,jC]
  · by_cases h:k=3
    ·rw[bR (by simpa using h)];exact h3 h
    ·rw[bS (by simpa using h)];exact hk h
  ·simp
  · refine jR ?_;have e1:ai Bb (aQ 4) (eC .non) [some (.sh (.int k)),some (.sh (.int c)),some (.sh H),some (.sh (.int p)),some (.sh (.exc a.ag)),none]=some (.bl true):=rfl;have e2:ai jf (aG (pe a) (ae (eV 4) ax)) (eL (kA (ae (eC (.str "NoPlaces")) ax))) [some (.sh (.int k)),some (.sh (.int c)),some (.sh H),some (.sh (.int p)),some (.sh (.exc a.ag)),none]=some (.bl true):=by
      have hl:eL (kA (ae (eC (.str "NoPlaces")) ax))=fun _=>some (D.lst [.str "NoPlaces"]):=rfl;rw[hl];simp only[ai,aG,eV,ae,ax,dQ,fe,cC,gT,Nq,Uj]
    unfold uD cg;rw[e1,e2];rfl
theorem Nt{a:nr}(hA:rQ a){k:Int}(k3:k≠3){H:D}{names:bD}(o:yI (z9 k) (fN a k) c H names)(c6:c≤6){p:Int}(hp:p<1∨c<p):iN a [.int k,.int c,H,.int p]=some (.sh (.bl true)):=by
  refine yJ (fun e=>absurd e k3) fun _=>?_;have lk:=oz hA k (aA a) (aA a) (aA a);have e:(if k=0 then aA a else if k=1 then aA a else aA a)=aA a:=by
    split
    ·rfl
    ·split<;>rfl
  rw[e] at lk;have hb:=Aa hA o c6 p;rw[bR hp] at hb;simp only[mX,aG,eV,ae,ax,dQ,fe,cC,gT,KW,lk,hb]
theorem Hl{a:nr}(hA:rQ a)(h0:0≤c)(c6:c≤6)(hh:∀h∈hs,1≤h.2)(hN:ak hs≤2^105)(t:Run c hs [] L rest)(hl:rest.length≤6){p:Int}(hp:p<0∨c<p):iN a [.int 3,.int c,.lst (hs.map aK),.int p]=some (.sh (.bl true)):=by refine yJ (fun _=>?_) fun e=>absurd rfl e;rw[wO hA h0 c6 hh hN t hl p,bR hp]
theorem Hm(n:Nat)(x:Option Rat):dj (n+2) [bz x,bz x]=some (.sh (.bl true)):=by
  cases x with
  |none=>exact KP (n+1)
  |some r =>
   refine B9 (n:=n+1) (by simp) fun z hz=>?_;rcases gB.mp hz with rfl|hz
   ·exact same_int n _
   · have e:z=.int (r.den:Int):=by simpa using hz
     rw[e];exact same_int n _
theorem wQ{α:Type}(f:α→Option Rat){l:List α}(hl:l.length≤1000):dj 6 [.lst (l.map fun h=>bz (f h)),.lst (l.map fun h=>bz (f h))]=some (.sh (.bl true)) :=
  KQ (n:=5) (by rw[dX];exact hl) fun z hz=>by obtain⟨h,_,rfl⟩:=lR.mp hz;exact Hm 3 _
theorem wR{l:bD}(hl:l.length≤1000):dj 6 [.tup (l.map D.int),.tup (l.map D.int)]=some (.sh (.bl true)) :=
  B9 (n:=5) (by rw[dX];exact hl) fun z hz=>by obtain⟨h,_,rfl⟩:=lR.mp hz;exact same_int 4 _
theorem Hn(hs:ip):(D.lst (hs.map aK)).jn 8=true:=by rw[Qw,List.all_map,List.all_eq_true];intro x _;show(aK x).jn 7=true;unfold aK;rw[JL];simp only[pX,List.all_nil,JM,Bool.and_true];rw[JL];exact MC _ _
theorem KZ(r:Int×Option Rat):jd (bX r) (.int 0)=some (.int r.1):=rfl
theorem K0(r:Int×Option Rat):jd (bX r) (.int 1)=some (bz r.2):=rfl
theorem uV{b:BF}{g:SF}(fr:fU→cD):∀(ds:eY),(∀d o,b d (fr o)=some (fr (some (.sh d))))→(∀d∈ds,g (fr (some (.sh d)))=some (.nx (fr (some (.sh d)))))→∀o,∃o',jm b g ds (fr o)=some (.nx (fr o'))
  |[],_,_,o=>⟨o,rfl⟩
  |d::ds,hb,hg,o=>by obtain⟨o',h⟩:=uV fr ds hb (fun x hx=>hg x (h9 _ hx)) (some (.sh d));refine⟨o',?_⟩;unfold jm;rw[hb];simp only[cC,hg d hI,h]
theorem Ho(a:nr)(hl:hs.length≤1000){n:Int}{y:Option Rat}(A0 A1 A2 A3 A5 A6 A7 A8 A9 Ov DZ:fU):∃Hq,jm (aZ true 13) (mx a) (cA 0 hs.length) [A0,A1,A2,A3,some (.sh (.lst (hs.map aK))),A5,A6,A7,A8,A9,some (.ol (hs.map fun h=>bz (eR h.1 rows))),some (.sh (bX (n,y))),Ov,DZ]=some (.nx [A0,A1,A2,A3,some (.sh (.lst (hs.map aK))),A5,A6,A7,A8,A9,some (.ol (hs.map fun h=>bz (eR h.1 (rows++[(n,y)])))),some (.sh (bX (n,y))),Ov,Hq]):=by
  let FH:Nat→fU:=fun i=>match i with
    |0=>DZ
    |i+1=>some (.sh (.int (i:Int)))
  refine⟨FH hs.length,?_⟩
  let mk (i:Nat):eY:=((hs.take i).map fun h=>bz (eR h.1 (rows++[(n,y)])))++((hs.drop i).map fun h=>bz (eR h.1 rows))
  let st (i:Nat) (o:fU):cD:=[A0,A1,A2,A3,some (.sh (.lst (hs.map aK))),A5,A6,A7,A8,A9,some (.ol (mk i)),some (.sh (bX (n,y))),Ov,o]
  obtain⟨η',e,rfl⟩:=rF (b:=aZ true 13) (g:=mx a) (ds:=cA 0 hs.length) (η:=st 0 (FH 0))
    (fun i η=>η=st i (FH i)) 0 rfl (fun i d η hd e=>by
      subst e;rw[gK,nI] at hd;obtain⟨z,hz,rfl⟩:=pv.mp hd;have hi:i<hs.length:=by have:=(u0.mp hz).1;simpa using this
      have hki:z=(i:Int):=by rw[nI,List.getElem?_range hi] at hz;simp at hz;omega
      subst hki;rw[Nat.zero_add];have Uk:hs[i]?=some hs[i]:=nH hi;have a1:pE (hs.map aK) (i:Int)=some (aK hs[i]):=uN (by rw[nI,Uk];rfl)
      have b0:jd (aK hs[i]) (.int 0)=some (.tup (hs[i].1.map D.int)):=rfl;have q:=rE (n:=n) (S:=.tup (hs[i].1.map D.int)) (ms:=hs[i].1) rfl;have Ul:hs.drop i=hs[i]::hs.drop (i+1):=List.drop_eq_getElem_cons hi;have Um:hs.take (i+1)=hs.take i++[hs[i]]:=by rw[List.take_succ,Uk];rfl
      have exs:∀h:bD×Int,eR h.1 (rows++[(n,y)])=if h.1.contains n=true then y else eR h.1 rows:=fun h=>ou _ _ _
      have Ye:mk i=((hs.take i).map fun h=>bz (eR h.1 (rows++[(n,y)])))++(bz (eR hs[i].1 rows)::((hs.drop (i+1)).map fun h=>bz (eR h.1 rows))):=by show _++((hs.drop i).map fun h=>bz (eR h.1 rows))=_;rw[Ul];rfl
      have Uo:mk (i+1)=((hs.take i).map fun h=>bz (eR h.1 (rows++[(n,y)])))++(bz (eR hs[i].1 (rows++[(n,y)]))::((hs.drop (i+1)).map fun h=>bz (eR h.1 rows))):=by show((hs.take (i+1)).map fun h=>bz (eR h.1 (rows++[(n,y)])))++_=_;rw[Um,List.map_append,List.append_assoc];rfl
      have Ow:((hs.take i).map fun h=>bz (eR h.1 (rows++[(n,y)]))).length=i:=by rw[dX,List.length_take];omega
      refine⟨[A0,A1,A2,A3,some (.sh (.lst (hs.map aK))),A5,A6,A7,A8,A9,some (.ol (mk i)),some (.sh (bX (n,y))),Ov,some (.sh (.int (i:Int)))],st (i+1) (some (.sh (.int (i:Int)))),rfl,.inl ?_,rfl⟩;unfold mx;have ht:cg (ai (inD false) (ai jd (aQ 11) (eC (.int 0))) (ai jd (ai jd (aQ 4) (aQ 13)) (eC (.int 0)))) [A0,A1,A2,A3,some (.sh (.lst (hs.map aK))),A5,A6,A7,A8,A9,some (.ol (mk i)),some (.sh (bX (n,y))),Ov,some (.sh (.int (i:Int)))]=some (hs[i].1.contains n):=by simp only[cg,ai,aQ,eC,dQ,fe,cC,KZ,Tc,a1,b0,q]
      cases hc:hs[i].1.contains n with
      |false =>
       rw[hc] at ht;refine(kG ht).trans ?_;have:mk (i+1)=mk i:=by rw[Ye,Uo,exs,hc];rfl
       show some (Out.nx _)=some (Out.nx [A0,A1,A2,A3,_,A5,A6,A7,A8,A9,some (.ol (mk (i+1))),_,Ov,_]);rw[this]
      |true =>
       rw[hc] at ht;refine(n5 ht).trans ?_;have hlen:(mk i).length=hs.length:=by rw[Ye];simp;omega
       have Ug:Lg (mk i).length (i:Int)=some i:=by rw[hlen];unfold Lg;simp;omega
       have Hc:(mk i).set i (bz y)=mk (i+1):=by rw[Ye,Uo,exs,hc,bR rfl];rw[List.set_append_right _ _ (by rw[Ow];exact cN _),Ow,Nat.sub_self];rfl
       simp only[Mz,ai,eV,aQ,eC,dQ,fe,cC,K0,Ug,gT,Hc,lP,lQ];rfl)
  have DN:(cA 0 hs.length).length=hs.length:=by rw[gK];simp
  have e0:mk 0=hs.map fun h=>bz (eR h.1 rows):=by show((hs.take 0).map _)++((hs.drop 0).map _)=_;simp
  have e1:mk (0+(cA 0 hs.length).length)=hs.map fun h=>bz (eR h.1 (rows++[(n,y)])):=by show((hs.take _).map _)++((hs.drop _).map _)=_;rw[Nat.zero_add,DN,List.take_length,List.drop_length];simp
  have e':jm (aZ true 13) (mx a) (cA 0 hs.length) [A0,A1,A2,A3,some (.sh (.lst (hs.map aK))),A5,A6,A7,A8,A9,some (.ol (mk 0)),some (.sh (bX (n,y))),Ov,DZ]=some (.nx [A0,A1,A2,A3,some (.sh (.lst (hs.map aK))),A5,A6,A7,A8,A9,some (.ol (mk (0+(cA 0 hs.length).length))),some (.sh (bX (n,y))),Ov,FH (0+(cA 0 hs.length).length)]):=e;rw[e0,e1,Nat.zero_add,DN] at e';exact e'
def nG(S:D)(x0 c k:Int)(hs:ip)(far:Int)(W:D)(names:bD)(o9 Fy QZ Nu DZ:fU):cD :=
  [some (.sh S),some (.sh (.int x0)),some (.sh (.int c)),some (.sh (.int k)),some (.sh (.lst (hs.map aK))),some (.sh (.int far)),some (.sh W),some (.sh (.lst (hs.map aK))),some (.sh (.lst (names.map D.int))),o9,Fy,QZ,Nu,DZ]
theorem yK{a:nr}(hA:rQ a)(S:D)(x0:Int){c:Int}(k far:Int)(W:D)(names:bD)(h0:0≤c)(c6:c≤6){hs:ip}(hh:∀h∈hs,1≤h.2)(hN:ak hs≤2^105)(hsl:hs.length≤1000){rest:pW}{L:Option Rat}(t:Run c hs [] L rest)(hl:rest.length≤6)(hc:(rest.length:Int)=c):∀(post pre:pW),rest=pre++post→∀(o9 QZ Nu DZ:fU),∃o9' Yg Yh Hq,jm (nC 2 (df (aZ true 9) (df (aZ true 11) nA))) (pj a) (pU pre.length (post.map bX)) (nG S x0 c k hs far W names o9 (some (.ol (hs.map fun h=>bz (eR h.1 pre)))) QZ Nu DZ)=some (.nx (nG S x0 c k hs far W names o9' (some (.ol (hs.map fun h=>bz (eR h.1 rest)))) Yg Yh Hq))
  |[],pre,e,o9,QZ,Nu,DZ=>by rw[uv] at e;subst e;exact⟨o9,QZ,Nu,DZ,rfl⟩
  |(n,y)::post,pre,e,o9,QZ,Nu,DZ=>by
   have hlen:=hJ List.length e;rw[uq,xr] at hlen;have hb:=wO hA h0 c6 hh hN t hl ((pre.length:Nat):Int);rw[bS (by omega),Int.toNat_natCast,show rest.take pre.length=pre by rw[e,List.take_left'];rfl] at hb;obtain⟨Hq,hm⟩:=Ho a hsl (rows:=pre) (n:=n) (y:=y) (some (.sh S)) (some (.sh (.int x0))) (some (.sh (.int c))) (some (.sh (.int k))) (some (.sh (.int far))) (some (.sh W)) (some (.sh (.lst (hs.map aK)))) (some (.sh (.lst (names.map D.int)))) (some (.sh (.int ((pre.length:Nat):Int)))) (some (.ol [])) DZ;obtain⟨p9,p11,p12,p13,ih⟩:=yK hA S x0 k far W names h0 c6 hh hN hsl t hl hc post (pre++[(n,y)]) (by rw[e];simp) (some (.sh (.int ((pre.length:Nat):Int)))) (some (.sh (bX (n,y)))) (some (.ol [])) Hq;refine⟨p9,p11,p12,p13,?_⟩;rw[gy];show jm _ _ (.tup [.int ((pre.length:Nat):Int),bX (n,y)]::pU (pre.length+1) (post.map bX)) _=_;have e1:(pre++[(n,y)]).length=pre.length+1:=by simp
   rw[e1] at ih;unfold jm;have rG:nC 2 (df (aZ true 9) (df (aZ true 11) nA)) (.tup [.int ((pre.length:Nat):Int),bX (n,y)]) (nG S x0 c k hs far W names o9 (some (.ol (hs.map fun h=>bz (eR h.1 pre)))) QZ Nu DZ)=some (nG S x0 c k hs far W names (some (.sh (.int ((pre.length:Nat):Int)))) (some (.ol (hs.map fun h=>bz (eR h.1 pre)))) (some (.sh (bX (n,y)))) Nu DZ):=rfl;rw[rG];have hg:pj a (nG S x0 c k hs far W names (some (.sh (.int ((pre.length:Nat):Int)))) (some (.ol (hs.map fun h=>bz (eR h.1 pre)))) (some (.sh (bX (n,y)))) Nu DZ)=some (.nx (nG S x0 c k hs far W names (some (.sh (.int ((pre.length:Nat):Int)))) (some (.ol (hs.map fun h=>bz (eR h.1 (pre++[(n,y)]))))) (some (.sh (bX (n,y)))) (some (.ol [])) Hq)):=by
     unfold pj nG;refine(aV (uS (d:=hs.map fun h=>bz (eR h.1 pre)) ?_)).trans ?_
     ·simp only[nX,eV,ae,ax,dQ,fe,cC,gT,hb]
     simp only[lP,lQ];refine(aV ((kG ?_).trans rfl)).trans ?_
     ·have EB:=wQ (fun h:bD×Int=>eR h.1 pre) hsl;simp only[jh,cg,aG,aQ,ae,ax,dQ,fe,cC,gT,EB];rfl
     refine(aV (show zz 12 _=some (.nx _) from rfl)).trans ?_;simp only[lP,lQ];unfold md;have hr:gq (sF kB (ae (aQ 4) ax)) [some (.sh S),some (.sh (.int x0)),some (.sh (.int c)),some (.sh (.int k)),some (.sh (.lst (hs.map aK))),some (.sh (.int far)),some (.sh W),some (.sh (.lst (hs.map aK))),some (.sh (.lst (names.map D.int))),some (.sh (.int ((pre.length:Nat):Int))),some (.ol (hs.map fun h=>bz (eR h.1 pre))),some (.sh (bX (n,y))),some (.ol []),DZ]=some (cA 0 hs.length):=by
       have h1:((hs.length:Nat):Int)≤10000∧-10000≤((hs.length:Nat):Int):=by omega
       simp only[gq,sF,kB,aQ,ae,ax,dQ,fe,cC,gT,dX,h1,and_self,iq,Int.toNat_natCast]
     rw[hr];exact hm
   simp only[cC,hg];exact ih
theorem K1(a:nr)(hA:rQ a)(ns:bD)(hl:ns.length≤63):z3 a [.lst (ns.map D.int)]=some (.sh (.bl true)):=by
  have hr0:eB [.lst (ns.map D.int),.int 0]=some (.sh (.int (ns.getD 0 0))):=Dx ns 0;have hr1:eB [.lst (ns.map D.int),.int 1]=some (.sh (.int (ns.getD 1 0))):=Dx ns 1;have hm6:∀y,pH y 6=true:=fun y=>rfl;have hm3:∀y,pH y 3=true:=fun y=>rfl;have hd6:∀y,divC y 6=true:=fun y=>rfl;have h1:=Int.emod_nonneg (ns.getD 0 0) (show(6:Int)≠0 by decide);have h2:=Int.emod_lt_of_pos (ns.getD 0 0) (show(0:Int)<6 by decide);obtain⟨c,hc⟩:∃c,c=1+ns.getD 0 0%6:=⟨_,rfl⟩
  obtain⟨k,hk⟩:∃k,k=ns.getD 0 0 / 6%3:=⟨_,rfl⟩
  obtain⟨far,Uq⟩:∃f,f=ns.getD 1 0%10^39:=⟨_,rfl⟩
  have afV:0≤far:=by rw[Uq];exact Int.emod_nonneg _ (by decide)
  have k3:k≠3:=by omega
  have c1:1≤c:=by omega
  have c6:c≤6:=by omega
  have h0:0≤c:=by omega
  obtain⟨hs,eh,cf,ps,hP,Qy,jz,XT⟩:=M9 ns 2 30 c1 c6 hl (by decide);have h6:∀x∈hs,x.1.length≤6:=fun x hx=>(cf.all x hx).1.le6 c6;have hh:∀h∈hs,1≤h.2:=fun h hm=>(cf.all h hm).2;have hsl:hs.length≤1000:=by rw[Qy,(ug hP).length_eq];omega
  have hN:ak hs≤2^105:=by
    have e:ak hs=ak ps:=by rw[Qy];exact Kt ((ug hP).map _)
    rw[e];refine Int.le_trans XT ?_;decide +kernel
  obtain⟨names,o⟩:=Np a h0 c6 h6 hh hN k;have oS:=Hk a k;obtain⟨rest,t,hrl⟩:=DQ h0 c6 hh hN c.toNat (B2 h0 hh) (by simp;omega)
  have Vw:rest.length≤6:=by omega
  have hrc:(rest.length:Int)=c:=by omega
  obtain⟨rows,eo,_,_,ec⟩:=o.ex;have lkO:List.lookup (fN a k) [(a.bj,aN),(a.aP,aJ),(a.aD,aB)]=some (z9 k):=oz hA k aN aJ aB;have lkL:List.lookup a.aD [(a.bj,aN),(a.aP,aJ),(a.aD,aB)]=some aB:=oz hA 2 aN aJ aB;have lkI:List.lookup (fN a k) [(a.bj,true),(a.aP,true),(a.aD,true)]=some true:=by
    rw[oz hA k true true true];split
    ·rfl
    ·split<;>rfl
  have lkB:List.lookup (fN a k) [(a.bj,aA a),(a.aP,aA a),(a.aD,aA a)]=some (aA a):=by
    rw[oz hA k (aA a) (aA a) (aA a)];split
    ·rfl
    ·split<;>rfl
  have Rk:=z8 h0 c6 hh hN (.obj a.aD) t Vw;refine dU ?_;show z0 a [some (.sh (.lst (ns.map D.int))),none,none,none,none,none,none,none,none,none,none,none,none,none]=_;unfold z0;refine(aV (cB (d:=.int (ns.getD 0 0)) ?_)).trans ?_
  ·simp only[eC,aG,ae,ax,eV,dQ,cC,gT,hr0]
  refine(aV (cB (d:=.int c) ?_)).trans ?_
  ·simp only[ai,eC,aQ,lP,lQ,dQ,fe,cC,lC (hm6 _),qj,hc]
  refine(aV (cB (d:=.int k) ?_)).trans ?_
  ·simp only[ai,eC,aQ,lP,lQ,dQ,fe,cC,div_ii (hd6 _),lC (hm3 _),hk]
  refine(aV (cB (d:=.lst (hs.map aK)) ?_)).trans ?_
  ·have e2:((2:Nat):Int)=2:=rfl;have XU:((30:Nat):Int)=30:=rfl;rw[e2,XU] at eh;simp only[aG,eC,ae,ax,eV,lP,lQ,dQ,fe,cC,gT,eh]
  refine(aV (cB (d:=.int far) ?_)).trans ?_
  ·have p1:Jf (.int 10) (.int 39)=some (.int (10^39)):=rfl;have m1:mO (.int (ns.getD 1 0)) (.int (10^39))=some (.int (ns.getD 1 0%10^39)):=lC rfl;simp only[ai,aG,eC,ae,ax,eV,lP,lQ,dQ,fe,cC,gT,hr1,p1,m1,Uq]
  refine(aV (cB (d:=.obj (fN a k)) ?_)).trans ?_
  ·simp only[aG,ae,ax,eV,lP,lQ,dQ,fe,cC,gT,KW]
  refine(aV (cB (d:=.lst (hs.map aK)) rfl)).trans ?_;simp only[lP,lQ];refine(aV ((kG ?_).trans rfl)).trans ?_
  ·simp only[jh,cg,MF,eV,dQ,fe,cC,gT,lkI];rfl
  refine(aV (cB (d:=.lst (names.map D.int)) ?_)).trans ?_
  · have e4:∀η:cD,η[4]?=some (some (.sh (.lst (hs.map aK))))→eL (nh (eV 4)) η=some (.lst (hs.map aK)):=fun η h=>by
      simp only[eL,nh,eV,h,cC,fu,gT]
    have e5:=e4 [some (.sh (.lst (ns.map D.int))),some (.sh (.int (ns.getD 0 0))),some (.sh (.int c)),some (.sh (.int k)),some (.sh (.lst (hs.map aK))),some (.sh (.int far)),some (.sh (.obj (fN a k))),some (.sh (.lst (hs.map aK))),none,none,none,none,none,none] rfl;have e6:mj [(a.bj,aN),(a.aP,aJ),(a.aD,aB)] (eV 6) (ae (eV 2) (ae (eL (nh (eV 4))) ax)) [some (.sh (.lst (ns.map D.int))),some (.sh (.int (ns.getD 0 0))),some (.sh (.int c)),some (.sh (.int k)),some (.sh (.lst (hs.map aK))),some (.sh (.int far)),some (.sh (.obj (fN a k))),some (.sh (.lst (hs.map aK))),none,none,none,none,none,none]=some (.lst rows):=by unfold mj aG ae;rw[e5];simp only[eV,eC,ax,dQ,fe,cC,gT,lkO,eo]
    refine(hJ (Option.map D.lst) (?_:dg 1 [] _ _ _ _ _=some (names.map D.int))).trans rfl;have e7:ia (mj [(a.bj,aN),(a.aP,aJ),(a.aD,aB)] (eV 6) (ae (eV 2) (ae (eL (nh (eV 4))) ax))) [some (.sh (.lst (ns.map D.int))),some (.sh (.int (ns.getD 0 0))),some (.sh (.int c)),some (.sh (.int k)),some (.sh (.lst (hs.map aK))),some (.sh (.int far)),some (.sh (.obj (fN a k))),some (.sh (.lst (hs.map aK))),none,none,none,none,none,none]=some rows:=(hJ (Option.bind · fu) e6).trans rfl;exact(hJ (Option.bind · _) e7).trans ec
  simp only[lP,lQ]
  -- the Vx
  have Tz:1≤c+1-1:=by omega
  have key:∀{f g:EF} {η:cD} {u v:D},f η=some u→g η=some v→dj 6 [u,v]=some (.sh (.bl true))→jh (cg (aG (dj 6) (ae f (ae g ax)))) η=some false:=fun k1 k2 k3=>by simp only[jh,cg,aG,ae,ax,k1,k2,cC,gT,k3];rfl
  have l1:∀p:Int,1≤p→p≤c→pf a (nG (.lst (ns.map D.int)) (ns.getD 0 0) c k hs far (.obj (fN a k)) names (some (.sh (.int p))) none none none none)=some (.nx (nG (.lst (ns.map D.int)) (ns.getD 0 0) c k hs far (.obj (fN a k)) names (some (.sh (.int p))) none none none none)):=fun p p1 p2=>by
    unfold pf;have Yi:=Aa hA oS (by decide) 1;rw[bS (by decide)] at Yi;have hb:=Aa hA o c6 p;rw[bS (by omega)] at hb;have hsz:iX (([1,0]:bD).take (1:Int).toNat)=[1]:=Bi (List.Perm.refl _) (List.pairwise_singleton _ _);rw[hsz] at Yi;have EB:eL (kA (ae (gA (ae (gA (ae (eC (.int 0)) ax)) (ae (eC (.int 3)) ax))) (ae (gA (ae (gA (ae (eC (.int 1)) ax)) (ae (eC (.int 4)) ax))) ax)))=fun _=>some wM:=rfl;refine(aV ((kG (key (u:=.tup ([1].map D.int)) (v:=.tup ([1].map D.int)) ?_ rfl (wR (by simp)))).trans rfl)).trans ?_
    ·rw[EB];simp only[nG,tG,mX,eV,eC,ae,ax,dQ,fe,cC,gT,lkB,Yi]
    refine(kG (key (u:=.tup ((iX (names.take p.toNat)).map D.int)) (v:=.tup ((iX (names.take p.toNat)).map D.int)) ?_ ?_ (wR ?_))).trans rfl
    ·simp only[nG,tG,mX,eV,eC,ae,ax,dQ,fe,cC,gT,lkB,hb]
    · obtain⟨q,rfl⟩:∃q:Nat,p=(q:Int):=⟨p.toNat,by omega⟩
      have hln:(names.take q).length<64:=by have:=o.len;rw[List.length_take];omega
      simp only[nG,nY,eL,vW,lB,vL,nZ,eV,aQ,dQ,fe,cC,gT,DY,vW.Jv,fu,←List.map_take,iK,bR hln,Int.toNat_natCast]
    ·rw[(kF _).length_eq,List.length_take];have:=o.len;omega
  obtain⟨o9,hf1⟩:=uV (b:=aZ true 9) (g:=pf a) (fun o=>nG (.lst (ns.map D.int)) (ns.getD 0 0) c k hs far (.obj (fN a k)) names o none none none none) (cA 1 (c+1-1).toNat) (fun _ _=>rfl) (fun d hd=>by
    rw[gK] at hd;obtain⟨p,hp,rfl⟩:=lR.mp hd;obtain⟨i,hi,rfl⟩:=lR.mp hp;have:=xt.mp hi;exact l1 _ (by omega) (by omega)) none
  refine(aV (η':=nG (.lst (ns.map D.int)) (ns.getD 0 0) c k hs far (.obj (fN a k)) names o9 none none none none) ?_).trans ?_
  · unfold md;have hr:rh (eC (.int 1)) (ai jQ (aQ 2) (eC (.int 1))) (nG (.lst (ns.map D.int)) (ns.getD 0 0) c k hs far (.obj (fN a k)) names none none none none none)=some (cA 1 (c+1-1).toNat):=by
      have h4:c+1≤10000∧-10000≤c+1∧(1:Int)≤10000∧(-10000:Int)≤1:=by omega
      simp only[rh,nG,ai,eC,aQ,dQ,fe,cC,qj,h4,and_self,iq]
    exact(hJ (Option.bind · _) hr).trans hf1
  -- what is refused
  have s1:zt (.int (-1)) (.int far)=some (.int (-1-far)):=Qr _ _;obtain⟨q9,hf2⟩:=uV (b:=aZ true 9) (g:=tS a) (fun o=>nG (.lst (ns.map D.int)) (ns.getD 0 0) c k hs far (.obj (fN a k)) names o none none none none) [.int 0,.int (-1-far),.int (c+1+far)] (fun _ _=>rfl) (fun d hd=>by
    have Nz:∃p,d=.int p∧(p<1∨c<p):=by
      simp only[gB,yN,or_false] at hd;rcases hd with rfl|rfl|rfl
      ·exact⟨0,rfl,by omega⟩
      ·exact⟨_,rfl,by omega⟩
      ·exact⟨_,rfl,by omega⟩
    obtain⟨p,rfl,hp⟩:=Nz;have Yj:=Nt hA k3 o c6 hp;unfold tS;refine(kG ?_).trans rfl;simp only[nG,jh,cg,aG,eV,ae,ax,dQ,fe,cC,gT,Yj];rfl) o9
  refine(aV (η':=nG (.lst (ns.map D.int)) (ns.getD 0 0) c k hs far (.obj (fN a k)) names q9 none none none none) ?_).trans ?_
  · unfold md;have hr:ia (eL (kA (ae (eC (.int 0)) (ae (ai zt (xH (eC (.int 1))) (aQ 5)) (ae (ai jQ (ai jQ (aQ 2) (eC (.int 1))) (aQ 5)) ax))))) (nG (.lst (ns.map D.int)) (ns.getD 0 0) c k hs far (.obj (fN a k)) names o9 none none none none)=some [.int 0,.int (-1-far),.int (c+1+far)]:=by
      have n1:xH (eC (.int 1))=fun _=>some (.int (-1)):=rfl;rw[n1];simp only[nG,ia,eL,kA,ai,eC,aQ,ae,ax,dQ,fe,cC,gT,s1,qj,fu];rfl
    exact(hJ (Option.bind · _) hr).trans hf2
  obtain⟨r9,hf3⟩:=uV (b:=aZ true 9) (g:=tT a) (fun o=>nG (.lst (ns.map D.int)) (ns.getD 0 0) c k hs far (.obj (fN a k)) names o none none none none) [.int (-1-far),.int (c+1+far)] (fun _ _=>rfl) (fun d hd=>by
    have Nz:∃p,d=.int p∧(p<0∨c<p):=by
      simp only[gB,yN,or_false] at hd;rcases hd with rfl|rfl
      ·exact⟨_,rfl,by omega⟩
      ·exact⟨_,rfl,by omega⟩
    obtain⟨p,rfl,hp⟩:=Nz;have Yj:=Hl hA h0 c6 hh hN t Vw hp;unfold tT;refine(kG ?_).trans rfl;simp only[nG,jh,cg,aG,eC,eV,ae,ax,dQ,fe,cC,gT,Yj];rfl) q9
  refine(aV (η':=nG (.lst (ns.map D.int)) (ns.getD 0 0) c k hs far (.obj (fN a k)) names r9 none none none none) ?_).trans ?_
  · unfold md;have hr:ia (eL (kA (ae (ai zt (xH (eC (.int 1))) (aQ 5)) (ae (ai jQ (ai jQ (aQ 2) (eC (.int 1))) (aQ 5)) ax)))) (nG (.lst (ns.map D.int)) (ns.getD 0 0) c k hs far (.obj (fN a k)) names q9 none none none none)=some [.int (-1-far),.int (c+1+far)]:=by
      have n1:xH (eC (.int 1))=fun _=>some (.int (-1)):=rfl;rw[n1];simp only[nG,ia,eL,kA,ai,eC,aQ,ae,ax,dQ,fe,cC,gT,s1,qj,fu];rfl
    exact(hJ (Option.bind · _) hr).trans hf3
  -- the loads behind each number of rows
  refine(aV (η':=nG (.lst (ns.map D.int)) (ns.getD 0 0) c k hs far (.obj (fN a k)) names r9 (some (.ol (hs.map fun h=>bz (eR h.1 [])))) none none none) ?_).trans ?_
  · have q:fA (aZ true 0) iV (gA (ae (eC (.int 0)) (ae (eC (.int 1)) ax))) (hs.map aK) (List.replicate 1 none++[])=some (hs.map fun h=>bz (eR h.1 [])):=gf aK _ fun h _=>⟨[some (.sh (aK h))],rfl,rfl,rfl⟩
    refine uS ?_;simp only[nG,dg,ia,eV,dQ,fe,cC,fu,ky,mC,q]
  obtain⟨t9,Yk,Yl,Ym,hf4⟩:=yK hA (.lst (ns.map D.int)) (ns.getD 0 0) k far (.obj (fN a k)) names h0 c6 hh hN hsl t Vw hrc rest [] rfl r9 none none none;refine(aV (η':=nG (.lst (ns.map D.int)) (ns.getD 0 0) c k hs far (.obj (fN a k)) names t9 (some (.ol (hs.map fun h=>bz (eR h.1 rest)))) Yk Yl Ym) ?_).trans ?_
  · unfold md;have e4:∀η:cD,η[4]?=some (some (.sh (.lst (hs.map aK))))→eL (nh (eV 4)) η=some (.lst (hs.map aK)):=fun η h=>by
      simp only[eL,nh,eV,h,cC,fu,gT]
    have e5:=e4 (nG (.lst (ns.map D.int)) (ns.getD 0 0) c k hs far (.obj (fN a k)) names r9 (some (.ol (hs.map fun h=>bz (eR h.1 [])))) none none none) rfl;have hr:BD (mj [(a.bj,aN),(a.aP,aJ),(a.aD,aB)] (zJ a.aD) (ae (eV 2) (ae (eL (nh (eV 4))) ax))) (nG (.lst (ns.map D.int)) (ns.getD 0 0) c k hs far (.obj (fN a k)) names r9 (some (.ol (hs.map fun h=>bz (eR h.1 [])))) none none none)=some (pU 0 (rest.map bX)):=by unfold BD mj aG ae;rw[e5];simp only[nG,zJ,eV,eC,ax,dQ,fe,cC,gT,lkL,Rk]
    exact(hJ (Option.bind · _) hr).trans hf4
  refine jR ?_;have hb:=wO hA h0 c6 hh hN t Vw c;rw[bS (by omega),List.take_of_length_le (by omega)] at hb;have EB:=wQ (fun h:bD×Int=>eR h.1 rest) hsl;have e1:cg (aG (dj 6) (ae (eL (nX (bP a) (ae (eV 2) (ae (eV 7) (ae (eV 2) ax))))) (ae (aQ 10) ax))) (nG (.lst (ns.map D.int)) (ns.getD 0 0) c k hs far (.obj (fN a k)) names t9 (some (.ol (hs.map fun h=>bz (eR h.1 rest)))) Yk Yl Ym)=some true:=by simp only[nG,cg,aG,nX,eL,eV,aQ,ae,ax,dQ,fe,cC,gT,hb,EB]
  have e2:ai jf (aQ 7) (aQ 4) (nG (.lst (ns.map D.int)) (ns.getD 0 0) c k hs far (.obj (fN a k)) names t9 (some (.ol (hs.map fun h=>bz (eR h.1 rest)))) Yk Yl Ym)=some (.bl true):=by simp only[nG,ai,aQ,dQ,fe,cC,Br (Hn hs)]
  unfold uD;rw[e1,e2];rfl
theorem Yn{P:dW→Prop}(h:∀x0:Value,P [x0]):∀us:dW,us.length=1→P us
  |[x0],_=>h x0
theorem FI{P:dW→Prop}(h:∀x0 x1:Value,P [x0,x1]):∀us:dW,us.length=2→P us
  |[x0,x1],_=>h x0 x1
theorem Q0{P:dW→Prop}(h:∀x0 x1 x2:Value,P [x0,x1,x2]):∀us:dW,us.length=3→P us
  |[x0,x1,x2],_=>h x0 x1 x2
theorem Vy{P:dW→Prop}(h:∀x0 x1 x2 x3:Value,P [x0,x1,x2,x3]):∀us:dW,us.length=4→P us
  |[x0,x1,x2,x3],_=>h x0 x1 x2 x3
theorem all_mk{l:PySem.W.OpenLaw}{K:PySem.W.Frag}{fa f0 f1 f2 f3 f4 f5 f6 f7 f8 f9 Vz VA VB VC VD VF VG VH VJ VL VM VN VP Yo Q5 Ur Q6 Us Ut fO lh bj aP aD cI fF gO gP ag fG gQ dJ iY:Addr}(X:K.In h)(G:h.Ns mainGlobals mg)(hfa:mg "law"=some (.ref fa)){od0 an0:Option Addr}{sl0:Array fV}{oc0 kV0 dc0 pm0 cd0 ct0:Value}(a0:nsIn K mainGlobals "lowest"=some (some (.ref f0)))(l0:K.lookup f0=some ⟨oc0,od0,.func (fnOf "lowest" "lowest" (bA jq) (bf jq) (ah jq) .none kV0 dc0 pm0 an0 cd0 ct0),sl0⟩)(c0:codeIn K cd0 "lowest"=true)(k0:keepIn K (.ref f0)=true){od1 an1:Option Addr}{sl1:Array fV}{oc1 kV1 dc1 pm1 cd1 ct1:Value}(a1:nsIn K mainGlobals "added"=some (some (.ref f1)))(l1:K.lookup f1=some ⟨oc1,od1,.func (fnOf "added" "added" (bA kc) (bf kc) (ah kc) .none kV1 dc1 pm1 an1 cd1 ct1),sl1⟩)(c1:codeIn K cd1 "added"=true)(k1:keepIn K (.ref f1)=true){od2 an2:Option Addr}{Hx:Array fV}{oc2 kV2 dc2 pm2 cd2 ct2:Value}(a2:nsIn K mainGlobals "less"=some (some (.ref f2)))(l2:K.lookup f2=some ⟨oc2,od2,.func (fnOf "less" "less" (bA ml) (bf ml) (ah ml) .none kV2 dc2 pm2 an2 cd2 ct2),Hx⟩)(c2:codeIn K cd2 "less"=true)(k2:keepIn K (.ref f2)=true){od3 an3:Option Addr}{sl3:Array fV}{oc3 kV3 dc3 pm3 cd3 ct3:Value}(a3:nsIn K mainGlobals "common_divisor"=some (some (.ref f3)))(l3:K.lookup f3=some ⟨oc3,od3,.func (fnOf "common_divisor" "common_divisor" (bA cP) (bf cP) (ah cP) .none kV3 dc3 pm3 an3 cd3 ct3),sl3⟩)(c3:codeIn K cd3 "common_divisor"=true)(k3:keepIn K (.ref f3)=true){od4 an4:Option Addr}{sl4:Array fV}{oc4 kV4 dc4 pm4 cd4 ct4:Value}(a4:nsIn K mainGlobals "worth"=some (some (.ref f4)))(l4:K.lookup f4=some ⟨oc4,od4,.func (fnOf "worth" "worth" (bA ke) (bf ke) (ah ke) .none kV4 dc4 pm4 an4 cd4 ct4),sl4⟩)(c4:codeIn K cd4 "worth"=true)(k4:keepIn K (.ref f4)=true){od5 an5:Option Addr}{sl5:Array fV}{oc5 kV5 dc5 pm5 cd5 ct5:Value}(a5:nsIn K mainGlobals "in_common"=some (some (.ref f5)))(l5:K.lookup f5=some ⟨oc5,od5,.func (fnOf "in_common" "in_common" (bA gg) (bf gg) (ah gg) .none kV5 dc5 pm5 an5 cd5 ct5),sl5⟩)(c5:codeIn K cd5 "in_common"=true)(k5:keepIn K (.ref f5)=true){od6 an6:Option Addr}{sl6:Array fV}{oc6 kV6 dc6 pm6 cd6 ct6:Value}(a6:nsIn K mainGlobals "loads_behind"=some (some (.ref f6)))(l6:K.lookup f6=some ⟨oc6,od6,.func (fnOf "loads_behind" "loads_behind" (bA dD) (bf dD) (ah dD) .none kV6 dc6 pm6 an6 cd6 ct6),sl6⟩)(c6:codeIn K cd6 "loads_behind"=true)(k6:keepIn K (.ref f6)=true){od7 an7:Option Addr}{sl7:Array fV}{oc7 kV7 dc7 pm7 cd7 ct7:Value}(a7:nsIn K mainGlobals "ballots_naming"=some (some (.ref f7)))(l7:K.lookup f7=some ⟨oc7,od7,.func (fnOf "ballots_naming" "ballots_naming" (bA cQ) (bf cQ) (ah cQ) .none kV7 dc7 pm7 an7 cd7 ct7),sl7⟩)(c7:codeIn K cd7 "ballots_naming"=true)(k7:keepIn K (.ref f7)=true){od8 an8:Option Addr}{sl8:Array fV}{oc8 kV8 dc8 pm8 cd8 ct8:Value}(a8:nsIn K mainGlobals "names_of"=some (some (.ref f8)))(l8:K.lookup f8=some ⟨oc8,od8,.func (fnOf "names_of" "names_of" (bA gW) (bf gW) (ah gW) .none kV8 dc8 pm8 an8 cd8 ct8),sl8⟩)(c8:codeIn K cd8 "names_of"=true)(k8:keepIn K (.ref f8)=true){od9 an9:Option Addr}{sl9:Array fV}{oc9 kV9 dc9 pm9 cd9 ct9:Value}(a9:nsIn K mainGlobals "unseated"=some (some (.ref f9)))(l9:K.lookup f9=some ⟨oc9,od9,.func (fnOf "unseated" "unseated" (bA gX) (bf gX) (ah gX) .none kV9 dc9 pm9 an9 cd9 ct9),sl9⟩)(c9:codeIn K cd9 "unseated"=true)(k9:keepIn K (.ref f9)=true){Yp Yq:Option Addr}{Yr:Array fV}{Ys Yt Yu Yv Uu Yw:Value}(Yx:nsIn K mainGlobals "next_turn"=some (some (.ref Vz)))(l10:K.lookup Vz=some ⟨Ys,Yp,.func (fnOf "next_turn" "next_turn" (bA gh) (bf gh) (ah gh) .none Yt Yu Yv Yq Uu Yw),Yr⟩)(Yy:codeIn K Uu "next_turn"=true)(VQ:keepIn K (.ref Vz)=true){Yz YB:Option Addr}{YC:Array fV}{YD YF YG YH Uv YJ:Value}(YK:nsIn K mainGlobals "next_load"=some (some (.ref VA)))(YL:K.lookup VA=some ⟨YD,Yz,.func (fnOf "next_load" "next_load" (bA gi) (bf gi) (ah gi) .none YF YG YH YB Uv YJ),YC⟩)(YM:codeIn K Uv "next_load"=true)(VR:keepIn K (.ref VA)=true){YN YQ:Option Addr}{YR:Array fV}{YS YT YV YW Uw YX:Value}(YY:nsIn K mainGlobals "comes_ahead"=some (some (.ref VB)))(YZ:K.lookup VB=some ⟨YS,YN,.func (fnOf "comes_ahead" "comes_ahead" (bA d8) (bf d8) (ah d8) .none YT YV YW YQ Uw YX),YR⟩)(Y0:codeIn K Uw "comes_ahead"=true)(VW:keepIn K (.ref VB)=true){Y1 Y2:Option Addr}{Y3:Array fV}{Y4 Y5 Y6 Y7 Ux Y8:Value}(Y9:nsIn K mainGlobals "load_of_name"=some (some (.ref VC)))(Za:K.lookup VC=some ⟨Y4,Y1,.func (fnOf "load_of_name" "load_of_name" (bA dE) (bf dE) (ah dE) .none Y5 Y6 Y7 Y2 Ux Y8),Y3⟩)(Zb:codeIn K Ux "load_of_name"=true)(VX:keepIn K (.ref VC)=true){Zd Ze:Option Addr}{Zf:Array fV}{Zg Zh Zi Zj Uy Zk:Value}(Zm:nsIn K mainGlobals "load_of_heap"=some (some (.ref VD)))(Zn:K.lookup VD=some ⟨Zg,Zd,.func (fnOf "load_of_heap" "load_of_heap" (bA dF) (bf dF) (ah dF) .none Zh Zi Zj Ze Uy Zk),Zf⟩)(Zo:codeIn K Uy "load_of_heap"=true)(VY:keepIn K (.ref VD)=true){Zq Zr:Option Addr}{Zt:Array fV}{Zu Zv Zw Zx Uz Zy:Value}(Zz:nsIn K mainGlobals "_law_cell_at"=some (some (.ref VF)))(ZC:K.lookup VF=some ⟨Zu,Zq,.func (fnOf "_law_cell_at" "_law_cell_at" (bA kf) (bf kf) (ah kf) .none Zv Zw Zx Zr Uz Zy),Zt⟩)(ZD:codeIn K Uz "_law_cell_at"=true)(VZ:keepIn K (.ref VF)=true){ZE ZF:Option Addr}{ZG:Array fV}{ZH ZI ZJ ZK UA ZL:Value}(ZM:nsIn K mainGlobals "_law_mixed"=some (some (.ref VG)))(ZN:K.lookup VG=some ⟨ZH,ZE,.func (fnOf "_law_mixed" "_law_mixed" (bA oW) (bf oW) (ah oW) .none ZI ZJ ZK ZF UA ZL),ZG⟩)(c16:codeIn K UA "_law_mixed"=true)(V0:keepIn K (.ref VG)=true){ZO ZP:Option Addr}{ZQ:Array fV}{ZR ZS ZT ZU UB ZV:Value}(ZW:nsIn K mainGlobals "_law_set"=some (some (.ref VH)))(ZX:K.lookup VH=some ⟨ZR,ZO,.func (fnOf "_law_set" "_law_set" (bA yy) (bf yy) (ah yy) .none ZS ZT ZU ZP UB ZV),ZQ⟩)(ZY:codeIn K UB "_law_set"=true)(V1:keepIn K (.ref VH)=true){ZZ Z0:Option Addr}{Z1:Array fV}{Z2 Z3 Z4 Z5 UC Z6:Value}(Z7:nsIn K mainGlobals "_law_heaps"=some (some (.ref VJ)))(Z8:K.lookup VJ=some ⟨Z2,ZZ,.func (fnOf "_law_heaps" "_law_heaps" (bA oX) (bf oX) (ah oX) .none Z3 Z4 Z5 Z0 UC Z6),Z1⟩)(Z9:codeIn K UC "_law_heaps"=true)(V2:keepIn K (.ref VJ)=true){aac aad:Option Addr}{aae:Array fV}{aaf aag aah aai UD aaj:Value}(a19:nsIn K mainGlobals "_law_same"=some (some (.ref VL)))(l19:K.lookup VL=some ⟨aaf,aac,.func (fnOf "_law_same" "_law_same" (bA s_same) (bf s_same) (ah s_same) .none aag aah aai aad UD aaj),aae⟩)(c19:codeIn K UD "_law_same"=true)(V3:keepIn K (.ref VL)=true){aan aao:Option Addr}{aap:Array fV}{aaq aar aas aat UE aau:Value}(a20:nsIn K mainGlobals "_law_kinds"=some (some (.ref VM)))(l20:K.lookup VM=some ⟨aaq,aan,.func (fnOf "_law_kinds" "_law_kinds" (bA oY) (bf oY) (ah oY) .none aar aas aat aao UE aau),aap⟩)(c20:codeIn K UE "_law_kinds"=true)(V4:keepIn K (.ref VM)=true){aay aaz:Option Addr}{aaA:Array fV}{aaB aaC aaD aaE UG aaF:Value}(a21:nsIn K mainGlobals "_law_way"=some (some (.ref VN)))(l21:K.lookup VN=some ⟨aaB,aay,.func (fnOf "_law_way" "_law_way" (bA yz) (bf yz) (ah yz) .none aaC aaD aaE aaz UG aaF),aaA⟩)(c21:codeIn K UG "_law_way"=true)(V5:keepIn K (.ref VN)=true){aaJ aaK:Option Addr}{aaL:Array fV}{aaM aaN aaO aaP UH aaQ:Value}(a22:nsIn K mainGlobals "_law_refused"=some (some (.ref VP)))(l22:K.lookup VP=some ⟨aaM,aaJ,.func (fnOf "_law_refused" "_law_refused" (bA kg) (bf kg) (ah kg) .none aaN aaO aaP aaK UH aaQ),aaL⟩)(c22:codeIn K UH "_law_refused"=true)(V6:keepIn K (.ref VP)=true){aaU UI:Option Addr}{aaV:Array fV}{aaW UJ UK UL Q7 UM:Value}(V7:nsIn K mainGlobals "law"=some (some (.ref Yo)))(l23:K.lookup Yo=some ⟨aaW,aaU,.func (fnOf "law" "law" (bA j6) (bf j6) (ah j6) .none UJ UK UL UI Q7 UM),aaV⟩)(c23:codeIn K Q7 "law"=true)(k23:keepIn K (.ref Yo)=true){aa0 aa1:Option Addr}{aa2:Array fV}{aa3 aa4 aa5 aa6 UN aa7:Value}(a24:PySem.W.findIn K (.ref bj) "bench"=some (some (.ref Q5)))(UO:isFn K (.ref Q5)=true)(l24:K.lookup Q5=some ⟨aa3,aa0,.func (fnOf "bench" "Way.bench" (bA gj) (bf gj) (ah gj) .none aa4 aa5 aa6 aa1 UN aa7),aa2⟩)(c24:codeIn K UN "Way.bench"=true)(Q8:keepIn K (.ref Q5)=true){abd abe:Option Addr}{abf:Array fV}{abg abh abi abj Q9 abk:Value}(Ra:PySem.W.findIn K (.ref bj) "order"=some (some (.ref Ur)))(i25:isFn K (.ref Ur)=true)(Ry:K.lookup Ur=some ⟨abg,abd,.func (fnOf "order" "Most.order" (bA bJ) (bf bJ) (ah bJ) .none abh abi abj abe Q9 abk),abf⟩)(V8:codeIn K Q9 "Most.order"=true)(UQ:keepIn K (.ref Ur)=true){abm abn:Option Addr}{abo:Array fV}{abp abq abr abt UR abu:Value}(a26:PySem.W.findIn K (.ref bj) "seated"=some (some (.ref Q6)))(UT:isFn K (.ref Q6)=true)(l26:K.lookup Q6=some ⟨abp,abm,.func (fnOf "seated" "Way.seated" (bA fC) (bf fC) (ah fC) .none abq abr abt abn UR abu),abo⟩)(c26:codeIn K UR "Way.seated"=true)(Rb:keepIn K (.ref Q6)=true){aby abz:Option Addr}{abA:Array fV}{abB abC abD abE UU abF:Value}(Rz:PySem.W.findIn K (.ref aP) "order"=some (some (.ref Us)))(i27:isFn K (.ref Us)=true)(UW:K.lookup Us=some ⟨abB,aby,.func (fnOf "order" "Turns.order" (bA d9) (bf d9) (ah d9) .none abC abD abE abz UU abF),abA⟩)(c27:codeIn K UU "Turns.order"=true)(UX:keepIn K (.ref Us)=true){abI abJ:Option Addr}{abK:Array fV}{abL abM abN abO UY abP:Value}(UZ:PySem.W.findIn K (.ref aD) "order"=some (some (.ref Ut)))(i28:isFn K (.ref Ut)=true)(U0:K.lookup Ut=some ⟨abL,abI,.func (fnOf "order" "Loads.order" (bA ef) (bf ef) (ah ef) .none abM abN abO abJ UY abP),abK⟩)(c28:codeIn K UY "Loads.order"=true)(U1:keepIn K (.ref Ut)=true){Ab:Option Addr}{uk:Nat}{Ac:Array fV}{rZ sd se sf sg sm sq:Tok}(oA:nsIn K mainGlobals "SIXTIETHS"=some (some (.ref fO)))(oB:K.lookup fO=some ⟨.type "tuple",Ab,.seq #[.int 0 rZ,.int 60 sd,.int 90 se,.int 110 sf,.int 125 sg,.int 137 sm,.int 147 sq] uk,Ac⟩)(m5:nsIn K mainGlobals "ValueError"=some none)(D0:nsIn K mainGlobals "bool"=some none)(oC:nsIn K mainGlobals "enumerate"=some none)(K2:nsIn K mainGlobals "int"=some none)(m6:nsIn K mainGlobals "isinstance"=some none)(K3:nsIn K mainGlobals "len"=some none)(D1:nsIn K mainGlobals "list"=some none)(Ad:nsIn K mainGlobals "range"=some none)(wU:nsIn K mainGlobals "sorted"=some none)(K4:nsIn K mainGlobals "str"=some none)(K5:nsIn K mainGlobals "sum"=some none)(Ae:nsIn K mainGlobals "tuple"=some none)(K6:nsIn K mainGlobals "Way"=some (some (.ref lh)))(D2:nsIn K mainGlobals "Most"=some (some (.ref bj)))(Af:nsIn K mainGlobals "Turns"=some (some (.ref aP)))(Ag:nsIn K mainGlobals "Loads"=some (some (.ref aD)))(m7:nsIn K mainGlobals "BenchError"=some (some (.ref cI)))(tX:nsIn K mainGlobals "NoCount"=some (some (.ref fF)))(wV:nsIn K mainGlobals "NoName"=some (some (.ref gO)))(wW:nsIn K mainGlobals "NoHeap"=some (some (.ref gP)))(qx:nsIn K mainGlobals "NoPlaces"=some (some (.ref ag)))(tY:nsIn K mainGlobals "NoLists"=some (some (.ref fG)))(wX:nsIn K mainGlobals "NoRoll"=some (some (.ref gQ)))(qy:nsIn K mainGlobals "NoBallot"=some (some (.ref dJ)))(Ah:nsIn K mainGlobals "NoWay"=some (some (.ref iY)))(iZ:excIn K cI Fg "ValueError.__new__"=true)(iz:excIn K ag Fg "ValueError.__new__"=true)(oD:PySem.W.findIn K (.ref ag) "__getattribute__"=some (some (.builtin "BaseException.__getattribute__")))(oE:PySem.W.findIn K (.ref ag) "__getattr__"=some none)(oF:PySem.W.findIn K (.ref ag) "__class__"=some (some (.builtin "object.__class__")))(oG:PySem.W.mroIn K ag (.type "object")=some true)(oH:PySem.W.mroIn K ag (.type "BaseException")=some true)(cJ:lD K ag cI=true)(dq:subIn K (.ref ag) (.ref fF)=some false)(dM:subIn K (.ref ag) (.ref gO)=some false)(dN:subIn K (.ref ag) (.ref gP)=some false)(du:subIn K (.ref ag) (.ref fG)=some false)(dO:subIn K (.ref ag) (.ref gQ)=some false)(cY:subIn K (.ref ag) (.ref dJ)=some false)(eK:subIn K (.ref ag) (.ref iY)=some false)(cK:subIn K (.ref ag) (.type "ValueError")=some true)(ja:ag≠cI)(hW:ag≠fF)(iG:ag≠gO)(iH:ag≠gP)(hZ:ag≠fG)(iJ:ag≠gQ)(gS:ag≠dJ)(jb:ag≠iY){D3:ClassData}(oI:PySem.W.clsIn K fF=some D3)(qz:typeIn K (.ref fF)=some (.type "type")){Hr:ClassData}(qA:PySem.W.clsIn K gO=some Hr)(tZ:typeIn K (.ref gO)=some (.type "type")){Hs:ClassData}(qB:PySem.W.clsIn K gP=some Hs)(t4:typeIn K (.ref gP)=some (.type "type")){Cd:ClassData}(m8:PySem.W.clsIn K ag=some Cd)(um:typeIn K (.ref ag)=some (.type "type")){D4:ClassData}(oJ:PySem.W.clsIn K fG=some D4)(qC:typeIn K (.ref fG)=some (.type "type")){Ht:ClassData}(qD:PySem.W.clsIn K gQ=some Ht)(t5:typeIn K (.ref gQ)=some (.type "type")){Ce:ClassData}(m9:PySem.W.clsIn K dJ=some Ce)(oK:typeIn K (.ref dJ)=some (.type "type")){K7:ClassData}(t6:PySem.W.clsIn K iY=some K7)(wY:typeIn K (.ref iY)=some (.type "type"))(uW:plainGet K bj Str.empty=true)(uX:hasDictIn K bj=true)(uY:plainOver K bj=true)(uZ:PySem.W.findIn K (.ref bj) "__setattr__"=some (some (.builtin "object.__setattr__")))(rR:makesIn K bj=true)(Ai:PySem.W.findIn K (.ref bj) "__init__"=some (some (.builtin "object.__init__")))(Aj:keepIn K (.ref bj)=true)(Ak:PySem.W.findIn K (.ref bj) "__class__"=some (some (.builtin "object.__class__")))(Al:PySem.W.mroIn K bj (.type "object")=some true)(jI:subIn K (.ref bj) (.ref lh)=some true)(sr:plainGet K aP Str.empty=true)(su:hasDictIn K aP=true)(sv:plainOver K aP=true)(sx:PySem.W.findIn K (.ref aP) "__setattr__"=some (some (.builtin "object.__setattr__")))(oo:makesIn K aP=true)(wZ:PySem.W.findIn K (.ref aP) "__init__"=some (some (.builtin "object.__init__")))(w5:keepIn K (.ref aP)=true)(w6:PySem.W.findIn K (.ref aP) "__class__"=some (some (.builtin "object.__class__")))(xa:PySem.W.mroIn K aP (.type "object")=some true)(i5:subIn K (.ref aP) (.ref lh)=some true)(lL:PySem.W.findIn K (.ref aP) "bench"=some (some (.ref Q5)))(kO:PySem.W.findIn K (.ref aP) "seated"=some (some (.ref Q6)))(sy:plainGet K aD Str.empty=true)(sA:hasDictIn K aD=true)(sC:plainOver K aD=true)(sD:PySem.W.findIn K (.ref aD) "__setattr__"=some (some (.builtin "object.__setattr__")))(kI:makesIn K aD=true)(xc:PySem.W.findIn K (.ref aD) "__init__"=some (some (.builtin "object.__init__")))(xf:keepIn K (.ref aD)=true)(xg:PySem.W.findIn K (.ref aD) "__class__"=some (some (.builtin "object.__class__")))(xi:PySem.W.mroIn K aD (.type "object")=some true)(i7:subIn K (.ref aD) (.ref lh)=some true)(lN:PySem.W.findIn K (.ref aD) "bench"=some (some (.ref Q5)))(kP:PySem.W.findIn K (.ref aD) "seated"=some (some (.ref Q6))){Rc:ClassData}(sE:PySem.W.clsIn K lh=some Rc)(xj:typeIn K (.ref lh)=some (.type "type"))(Hu:PySem.W.specialIn K (.builtin "object.__class__") "__get__"=some (some (.builtin "getset_descriptor.__get__")))(Hv:PySem.W.takesIn K (.builtin "object.__class__")=some true){Lq M4:Addr}(Rf:Q9=.ref Lq)(U2:h.get? M4=some (PySem.W.tabObj #[]))(Nv:jO K=some (Lq,M4))(Rg:PySem.W.codeHdIn K Lq M4=true):∃fd:FuncData,(∀(s:Shared) (v:Value),BindsTo s fd ⟨[v],[]⟩ [("_law_script",v)])∧∀(base:Heap) (c T:Addr),jO K=some (c,T)→K.In base→base.Ns mainGlobals mg→base.BuiltinsAt mg T→dw l.prog w K mg base kY 10 fa fd ["_law_script"] (QB K):=by
  subst Rf;have e:=hfa.symm.trans (fP X G V7);cases e
  let a:nr:=⟨f0,f1,f2,f3,f4,f5,f6,f7,f8,f9,Vz,VA,VB,VC,VD,VF,VG,VH,VJ,VL,VM,VN,VP,fa,Q5,Ur,Q6,Us,Ut,fO,lh,bj,aP,aD,cI,fF,gO,gP,ag,fG,gQ,dJ,iY,Lq,M4⟩
  have T:Txt K mg a:=⟨fP X G a0,fP X G a1,fP X G a2,fP X G a3,fP X G a4,fP X G a5,fP X G a6,fP X G a7,fP X G a8,fP X G a9,fP X G Yx,fP X G YK,fP X G YY,fP X G Y9,fP X G Zm,fP X G Zz,fP X G ZM,fP X G ZW,fP X G Z7,fP X G a19,fP X G a20,fP X G a21,fP X G a22,fP X G V7,fP X G K6,fP X G D2,fP X G Af,fP X G Ag,fP X G m7,fP X G tX,fP X G wV,fP X G wW,fP X G qx,fP X G tY,fP X G wX,fP X G qy,fP X G Ah,iZ,iz,⟨(by rw[m8];rfl),oD,oE,oF,Hu,Hv,oG,oH⟩,cJ,ql hW oI qz dq,ql iG qA tZ dM,ql iH qB t4 dN,Kc,ql hZ oJ qC du,ql iJ qD t5 dO,ql gS m9 oK cY,ql jb t6 wY eK,MX cK,⟨uW,uX,uY,uZ⟩,⟨rR,Ai,Aj⟩,⟨⟨uW,uX,uY,uZ⟩,Ak,Hu,Hv,Al⟩,⟨a24,UO,Q8⟩,⟨Ra,i25,UQ⟩,⟨a26,UT,Rb⟩,zL sE xj jI,⟨sr,su,sv,sx⟩,⟨oo,wZ,w5⟩,⟨⟨sr,su,sv,sx⟩,w6,Hu,Hv,xa⟩,⟨lL,UO,Q8⟩,⟨Rz,i27,UX⟩,⟨kO,UT,Rb⟩,zL sE xj i5,⟨sy,sA,sC,sD⟩,⟨kI,xc,xf⟩,⟨⟨sy,sA,sC,sD⟩,xg,Hu,Hv,xi⟩,⟨lN,UO,Q8⟩,⟨UZ,i28,U1⟩,⟨kP,UT,Rb⟩,zL sE xj i7,fP X G oA,(fun H=>.inr ⟨_,_,uk,oB,rfl,rfl,(by show 7≤sizeLine;decide),(.cons ⟨rZ,rfl⟩ (.cons ⟨sd,rfl⟩ (.cons ⟨se,rfl⟩ (.cons ⟨sf,rfl⟩ (.cons ⟨sg,rfl⟩ (.cons ⟨sm,rfl⟩ (.cons ⟨sq,rfl⟩ .nil)))))))⟩),uo X G m5,uo X G D0,uo X G oC,uo X G K2,uo X G m6,uo X G K3,uo X G D1,uo X G Ad,uo X G wU,uo X G K4,uo X G K5,uo X G Ae,Rg,Nv⟩
  have E0:=cG (st:=jq) l0 c0 k0;have b0:=E0.binds (ps:=["top","bottom"]) fun _ _ _ _ _ _ us hl=>FI (P:=fun us=>bindArgs _ ⟨us,[]⟩=pure (List.zip _ us)) (fun _ _=>rfl) us hl;have E1:=cG (st:=kc) l1 c1 k1;have b1:=E1.binds (ps:=["one","two"]) fun _ _ _ _ _ _ us hl=>FI (P:=fun us=>bindArgs _ ⟨us,[]⟩=pure (List.zip _ us)) (fun _ _=>rfl) us hl;have E2:=cG (st:=ml) l2 c2 k2;have b2:=E2.binds (ps:=["one","two"]) fun _ _ _ _ _ _ us hl=>FI (P:=fun us=>bindArgs _ ⟨us,[]⟩=pure (List.zip _ us)) (fun _ _=>rfl) us hl;have E3:=cG (st:=cP) l3 c3 k3;have b3:=E3.binds (ps:=["one","two"]) fun _ _ _ _ _ _ us hl=>FI (P:=fun us=>bindArgs _ ⟨us,[]⟩=pure (List.zip _ us)) (fun _ _=>rfl) us hl;have E4:=cG (st:=ke) l4 c4 k4;have b4:=E4.binds (ps:=["heaps","names"]) fun _ _ _ _ _ _ us hl=>FI (P:=fun us=>bindArgs _ ⟨us,[]⟩=pure (List.zip _ us)) (fun _ _=>rfl) us hl;have E5:=cG (st:=gg) l5 c5 k5;have b5:=E5.binds (ps:=["one","two"]) fun _ _ _ _ _ _ us hl=>FI (P:=fun us=>bindArgs _ ⟨us,[]⟩=pure (List.zip _ us)) (fun _ _=>rfl) us hl;have E6:=cG (st:=dD) l6 c6 k6;have b6:=E6.binds (ps:=["count","heaps","places"]) fun _ _ _ _ _ _ us hl=>Q0 (P:=fun us=>bindArgs _ ⟨us,[]⟩=pure (List.zip _ us)) (fun _ _ _=>rfl) us hl;have E7:=cG (st:=cQ) l7 c7 k7;have b7:=E7.binds (ps:=["heaps","name"]) fun _ _ _ _ _ _ us hl=>FI (P:=fun us=>bindArgs _ ⟨us,[]⟩=pure (List.zip _ us)) (fun _ _=>rfl) us hl;have E8:=cG (st:=gW) l8 c8 k8;have b8:=E8.binds (ps:=["rows"]) fun _ _ _ _ _ _ us hl=>Yn (P:=fun us=>bindArgs _ ⟨us,[]⟩=pure (List.zip _ us)) (fun _=>rfl) us hl;have E9:=cG (st:=gX) l9 c9 k9;have b9:=E9.binds (ps:=["count","rows"]) fun _ _ _ _ _ _ us hl=>FI (P:=fun us=>bindArgs _ ⟨us,[]⟩=pure (List.zip _ us)) (fun _ _=>rfl) us hl;have E10:=cG (st:=gh) l10 Yy VQ;have b10:=E10.binds (ps:=["count","heaps","rows"]) fun _ _ _ _ _ _ us hl=>Q0 (P:=fun us=>bindArgs _ ⟨us,[]⟩=pure (List.zip _ us)) (fun _ _ _=>rfl) us hl;have E11:=cG (st:=gi) YL YM VR;have b11:=E11.binds (ps:=["count","heaps","rows"]) fun _ _ _ _ _ _ us hl=>Q0 (P:=fun us=>bindArgs _ ⟨us,[]⟩=pure (List.zip _ us)) (fun _ _ _=>rfl) us hl;have E12:=cG (st:=d8) YZ Y0 VW;have b12:=E12.binds (ps:=["one","two"]) fun _ _ _ _ _ _ us hl=>FI (P:=fun us=>bindArgs _ ⟨us,[]⟩=pure (List.zip _ us)) (fun _ _=>rfl) us hl;have E13:=cG (st:=dE) Za Zb VX;have b13:=E13.binds (ps:=["heaps","rows","name"]) fun _ _ _ _ _ _ us hl=>Q0 (P:=fun us=>bindArgs _ ⟨us,[]⟩=pure (List.zip _ us)) (fun _ _ _=>rfl) us hl;have E14:=cG (st:=dF) Zn Zo VY;have b14:=E14.binds (ps:=["names","rows"]) fun _ _ _ _ _ _ us hl=>FI (P:=fun us=>bindArgs _ ⟨us,[]⟩=pure (List.zip _ us)) (fun _ _=>rfl) us hl;have E15:=cG (st:=kf) ZC ZD VZ;have b15:=E15.binds (ps:=["_law_script","_law_k"]) fun _ _ _ _ _ _ us hl=>FI (P:=fun us=>bindArgs _ ⟨us,[]⟩=pure (List.zip _ us)) (fun _ _=>rfl) us hl;have E16:=cG (st:=oW) ZN c16 V0;have b16:=E16.binds (ps:=["_law_cell","_law_place"]) fun _ _ _ _ _ _ us hl=>FI (P:=fun us=>bindArgs _ ⟨us,[]⟩=pure (List.zip _ us)) (fun _ _=>rfl) us hl;have E17:=cG (st:=yy) ZX ZY V1;have b17:=E17.binds (ps:=["_law_bits","_law_count"]) fun _ _ _ _ _ _ us hl=>FI (P:=fun us=>bindArgs _ ⟨us,[]⟩=pure (List.zip _ us)) (fun _ _=>rfl) us hl;have E18:=cG (st:=oX) Z8 Z9 V2;have b18:=E18.binds (ps:=["_law_script","_law_at","_law_most","_law_count"]) fun _ _ _ _ _ _ us hl=>Vy (P:=fun us=>bindArgs _ ⟨us,[]⟩=pure (List.zip _ us)) (fun _ _ _ _=>rfl) us hl;have E19:=cG (st:=s_same) l19 c19 V3;have b19:=E19.binds (ps:=["_law_found","_law_due"]) fun _ _ _ _ _ _ us hl=>FI (P:=fun us=>bindArgs _ ⟨us,[]⟩=pure (List.zip _ us)) (fun _ _=>rfl) us hl;have E20:=cG (st:=oY) l20 c20 V4;have b20:=E20.binds (ps:=["_law_e"]) fun _ _ _ _ _ _ us hl=>Yn (P:=fun us=>bindArgs _ ⟨us,[]⟩=pure (List.zip _ us)) (fun _=>rfl) us hl;have E21:=cG (st:=yz) l21 c21 V5;have b21:=E21.binds (ps:=["_law_kind"]) fun _ _ _ _ _ _ us hl=>Yn (P:=fun us=>bindArgs _ ⟨us,[]⟩=pure (List.zip _ us)) (fun _=>rfl) us hl;have E22:=cG (st:=kg) l22 c22 V6;have b22:=E22.binds (ps:=["_law_kind","_law_count","_law_heaps_here","_law_places"]) fun _ _ _ _ _ _ us hl=>Vy (P:=fun us=>bindArgs _ ⟨us,[]⟩=pure (List.zip _ us)) (fun _ _ _ _=>rfl) us hl;have E23:=cG (st:=j6) l23 c23 k23;have E24:=cG (st:=gj) l24 c24 Q8;have b24:=E24.binds (ps:=["self","count","heaps","places"]) fun _ _ _ _ _ _ us hl=>Vy (P:=fun us=>bindArgs _ ⟨us,[]⟩=pure (List.zip _ us)) (fun _ _ _ _=>rfl) us hl;have E25:=cG (st:=bJ) Ry V8 UQ;have b25:=E25.binds (ps:=["self","count","heaps"]) fun _ _ _ _ _ _ us hl=>Q0 (P:=fun us=>bindArgs _ ⟨us,[]⟩=pure (List.zip _ us)) (fun _ _ _=>rfl) us hl;have E26:=cG (st:=fC) l26 c26 Rb;have b26:=E26.binds (ps:=["self","count","heaps","places"]) fun _ _ _ _ _ _ us hl=>Vy (P:=fun us=>bindArgs _ ⟨us,[]⟩=pure (List.zip _ us)) (fun _ _ _ _=>rfl) us hl;have E27:=cG (st:=d9) UW c27 UX;have b27:=E27.binds (ps:=["self","count","heaps"]) fun _ _ _ _ _ _ us hl=>Q0 (P:=fun us=>bindArgs _ ⟨us,[]⟩=pure (List.zip _ us)) (fun _ _ _=>rfl) us hl;have E28:=cG (st:=ef) U0 c28 U1;have b28:=E28.binds (ps:=["self","count","heaps"]) fun _ _ _ _ _ _ us hl=>Q0 (P:=fun us=>bindArgs _ ⟨us,[]⟩=pure (List.zip _ us)) (fun _ _ _=>rfl) us hl;have xV:bj≠aP:=fun e=>by rw[e] at Ra;exact Di (by decide) (Ra.symm.trans Rz) Ry UW
  have xW:bj≠aD:=fun e=>by rw[e] at Ra;exact Di (by decide) (Ra.symm.trans UZ) Ry U0
  have xk:aP≠aD:=fun e=>by rw[e] at Rz;exact Di (by decide) (Rz.symm.trans UZ) UW U0
  have hA:rQ a:=⟨xV,xW,xk⟩
  refine⟨fnOf "law" "law" (bA j6) (bf j6) (ah j6) .none UJ UK UL UI Q7 UM,fun s v=>.of_eq rfl,fun base c0 T0 t0 _ _ hB=>?_⟩;have hB0:base.BuiltinsAt mg a.M4:=by have e:=Nv.symm.trans t0;cases e;exact hB
  have C3:gE l.prog w K mg base 1 a.dI ["one","two"] (dS K [true,true] dP):=⟨_,pI E3 T ,b3,k3⟩
  have C0:gE l.prog w K mg base 2 a.iy ["top","bottom"] (dS K [true,true] iB):=⟨_,BL E0 T C3,b0,k0⟩
  have C1:gE l.prog w K mg base 3 a.mq ["one","two"] (dS K [true,true] jt):=⟨_,Dr E1 T C0,b1,k1⟩
  have C2:gE l.prog w K mg base 1 a.oh ["one","two"] (dS K [true,true] oq):=⟨_,G7 E2 T ,b2,k2⟩
  have C5:gE l.prog w K mg base 1 a.ib ["one","two"] (dS K [true,false] gp):=⟨_,wq E5 T ,b5,k5⟩
  have C4:gE l.prog w K mg base 2 a.kh ["heaps","names"] (dS K [true,true] gY):=⟨_,Dt E4 T C5,b4,k4⟩
  have C12:gE l.prog w K mg base 2 a.fY ["one","two"] (dS K [true,true] er):=⟨_,tM E12 T C2,b12,VW⟩
  have C7:gE l.prog w K mg base 1 a.cw ["heaps","name"] (dS K [true,true] bW):=⟨_,pK E7 T ,b7,k7⟩
  have C14:gE l.prog w K mg base 1 a.cR ["names","rows"] (dS K [true,false] cz):=⟨_,rT E14 T ,b14,VY⟩
  have C13:gE l.prog w K mg base 4 a.fE ["heaps","rows","name"] (dS K [true,false,true] fI):=⟨_,rV E13 T C1 C7 C14 C0,b13,VX⟩
  have C8:gE l.prog w K mg base 1 a.cV ["rows"] (dS K [false] bC):=⟨_,xQ E8 T ,b8,k8⟩
  have C9:gE l.prog w K mg base 2 a.fR ["count","rows"] (dS K [true,false] dB):=⟨_,xS E9 T C8,b9,k9⟩
  have C11:gE l.prog w K mg base 5 a.ie ["count","heaps","rows"] (dS K [true,true,false] ig):=⟨_,wt E11 T C12 C13 C9,b11,VR⟩
  have C28:gE l.prog w K mg base 6 a.gd ["self","count","heaps"] (dS K [true,true,true] aB):=⟨_,tO E28 T C11,b28,U1⟩
  have C25:gE l.prog w K mg base 6 a.gL ["self","count","heaps"] (dS K [true,true,true] aN):=⟨_,uI Ry V8 T hB0 C7,b25,UQ⟩
  have C10:gE l.prog w K mg base 3 a.ic ["count","heaps","rows"] (dS K [true,true,false] ik):=⟨_,wu E10 T C8 C9 C4,b10,VQ⟩
  have C27:gE l.prog w K mg base 4 a.fZ ["self","count","heaps"] (dS K [true,true,true] aJ):=⟨_,tP E27 T C10,b27,UX⟩
  have C6:uE l.prog w K mg base 7 a.cy ["count","heaps","places"] (BE K [true,true,true] (bP a)):=⟨_,rW E6 T C28 C25 C27 C14,b6,k6⟩
  have C15:gE l.prog w K mg base 1 a.iM ["_law_script","_law_k"] (dS K [true,true] eB):=⟨_,Dv E15 T ,b15,VZ⟩
  have C16:gE l.prog w K mg base 1 a.mS ["_law_cell","_law_place"] (dS K [true,true] j7):=⟨_,Kk E16 T ,b16,V0⟩
  have C17:gE l.prog w K mg base 1 a.BI ["_law_bits","_law_count"] (dS K [true,true] wz):=⟨_,QK E17 T ,b17,V1⟩
  have C18:gE l.prog w K mg base 2 a.rO ["_law_script","_law_at","_law_most","_law_count"] (dS K [true,true,true,true] rX):=⟨_,Kl E18 T C15 C16 C17,b18,V2⟩
  have C19:gE l.prog w K mg base 7 a.jr ["_law_found","_law_due"] (dS K [false,false] (dj 6)):=BM E19 T b19 V3  6;have C20:gE l.prog w K mg base 1 a.rP ["_law_e"] (dS K [true] (pe a)):=⟨_,Km E20 T ,b20,V4⟩
  have C21:gE l.prog w K mg base 1 a.wg ["_law_kind"] (tE K [true] (uf a)):=⟨_,QM E21 T ,b21,V5⟩
  have C26:uE l.prog w K mg base 7 a.gN ["self","count","heaps","places"] (MS K [true,true,true,true] (bw a)):=⟨_,uK E26 T C28 C25 C27 C8,b26,Rb⟩
  have C24:uE l.prog w K mg base 8 a.gn ["self","count","heaps","places"] (MS K [true,true,true,true] (aA a)):=⟨_,wC E24 T C26,b24,Q8⟩
  have C22:gE l.prog w K mg base 9 a.ki ["_law_kind","_law_count","_law_heaps_here","_law_places"] (tE K [true,true,true,true] (iN a)):=⟨_,Dw E22 T C24 C20 C21 C6,b22,V6⟩
  exact(Kp E23 T C28 C25 C27 C24 C15 C18 C22 C19 C21 C6).imp fun vs H Q E q=>q (z3 a) fun ns hl=>K1 a hA ns hl
theorem Nw{K:PySem.W.Frag}{c T cM fM:Addr}{sl:Array fV}{kV dc:Value}(X:K.In h)(aC:nsIn K mainGlobals "Most"=some (some (.ref cM)))(aM:PySem.W.findIn K (.ref cM) "order"=some (some (.ref fM)))(lM:K.lookup fM=some ⟨oc,od,.func (fnOf "order" "Most.order" (bA bJ) (bf bJ) (ah bJ) .none kV dc pm an (.ref c) ct),sl⟩)(tn:jO K=some (c,T))(hd:PySem.W.codeHdIn K c T=true)(ln:K.lookup T=none)(hP:h.get? T=some (PySem.W.tabObj #[])):∃c T,h.TableAt c T #[]∧K.lookup T=none∧jO K=some (c,T) :=
  ⟨c,T,(PySem.W.codeHd_of_K X hd).tab hP,ln,tn⟩
theorem walk{l:PySem.W.OpenLaw}{q:Program}{loose:g7}{d:DefRec}{K:Params→PySem.W.Frag}(hn:l.most=some 63)(Sw:d.params.defaults=[])(hY:∀(w:World) (h:Heap),YP w h→(K w.params).In h)(Xq:∀(w:World) (h:Heap),YP w h→∃c T,h.TableAt c T #[]∧(K w.params).lookup T=none∧jO (K w.params)=some (c,T))(F:∀(w:World) (mg:Str→fV) (fa:Addr) (h:Heap),YP w h→(K w.params).In h→h.Ns mainGlobals mg→mg d.name=some (.ref fa)→∃fd:FuncData,(∀(s:Shared) (u:Value),BindsTo s fd ⟨[u],[]⟩ [("_law_script",u)])∧∀(base:Heap) (c T:Addr),jO (K w.params)=some (c,T)→(K w.params).In base→base.Ns mainGlobals mg→base.BuiltinsAt mg T→dw l.prog w (K w.params) mg base kY 10 fa fd ["_law_script"] (QB (K w.params))):PySem.W.WalkO q loose XP YP l.row.toRowW d [] (fun f vs=>PySem.call f vs) :=
  L2.J0 (n:=63) (k:=10) (x:="_law_script") (CX:=fun _=>kY) (sp:=fun w=>QB (K w.params)) hn (by decide) Sw ⟨rfl,by decide,by decide⟩ hY Xq F (fun _ H a ns hl hO hT hS=>fun Fn hF=>MH hO hT hS (hF ns hl)) fun _ _ _ _ _ z=>z
end Vt
open PySem PySem.W PyProof.Rows
set_option maxRecDepth 100000 in
set_option maxHeartbeats 0 in
theorem PySem.Challenge.cw_fairbench_k33_benches_of_ways_holds : PySem.Challenge.rw_fairbench_k33_benches_of_ways.Holds := by
  w_on;o_law
  refine holds_open (r:=PySem.Challenge.rw_fairbench_k33_benches_of_ways.row) (q:=HH.qv) (loose:=[])
    (Xt:=fun s=>xlAt HH.qv [] s&&recOk (RowW.records PySem.Challenge.rw_fairbench_k33_benches_of_ways.row.toRowW) s)
    (XP:=XL HH.qv []) (Yf:=(kmHook HH.KH HH.K9 HH.yP [206]).obs)
    (Ya:=(kmHook HH.KH HH.K9 HH.yP [206]).val) (YP:=(kmHook HH.KH HH.K9 HH.yP [206]).says) (N:=7492) HH.RG
    (kmHook HH.KH HH.K9 HH.yP [206]).of (kmHook HH.KH HH.K9 HH.yP [206]).keeps
    (fun s h=>xl_of s (Bool.and_eq_true_iff.mp h).1) XL.keeps (by rfl) (by rfl) (by rfl)
    (fun s h=>recFacts_of (Bool.and_eq_true_iff.mp h).2) (by rfl)
    (by first|assumption|decide +kernel)
    (by decide +kernel) ⟨rfl,rfl,rfl,rfl,rfl,by decide +kernel⟩ ?hw ?hc
  (case hw=>w_witness2)
  k_fill
  refine Vt.walk (l:=PySem.Challenge.rw_fairbench_k33_benches_of_ways) rfl rfl (fun w h Y=>km_in_of Y) ?TT ?F
  case TT =>
    intro w h Y;have KX:=km_in_of Y;refine' Vt.Nw KX ?abV ?abW ?abX ?abY ?abZ ?ab0 ?ab1
    (case abV=>k_is)
    (case abW=>k_is)
    (case abX=>k_is)
    (case ab1=>exact km_tabs_of Y _ hI)
    (case abY=>kernel_rfl)
    (case abZ=>kernel_rfl)
    (case ab0=>kernel_rfl)
  case F =>
    intro w mg fa h Y KX G Sx;refine' Vt.all_mk KX G Sx ?a0 ?l0 ?c0 ?k0 ?a1 ?l1 ?c1 ?k1 ?a2 ?l2 ?c2 ?k2 ?a3 ?l3 ?c3 ?k3 ?a4 ?l4 ?c4 ?k4 ?a5 ?l5 ?c5 ?k5 ?a6 ?l6 ?c6 ?k6 ?a7 ?l7 ?c7 ?k7 ?a8 ?l8 ?c8 ?k8 ?a9 ?l9 ?c9 ?k9 ?Yx ?l10 ?Yy ?VQ ?YK ?YL ?YM ?VR ?YY ?YZ ?Y0 ?VW ?Y9 ?Za ?Zb ?VX ?Zm ?Zn ?Zo ?VY ?Zz ?ZC ?ZD ?VZ ?ZM ?ZN ?c16 ?V0 ?ZW ?ZX ?ZY ?V1 ?Z7 ?Z8 ?Z9 ?V2 ?a19 ?l19 ?c19 ?V3 ?a20 ?l20 ?c20 ?V4 ?a21 ?l21 ?c21 ?V5 ?a22 ?l22 ?c22 ?V6 ?V7 ?l23 ?c23 ?k23 ?a24 ?UO ?l24 ?c24 ?Q8 ?Ra ?i25 ?Ry ?V8 ?UQ ?a26 ?UT ?l26 ?c26 ?Rb ?Rz ?i27 ?UW ?c27 ?UX ?UZ ?i28 ?U0 ?c28 ?U1 ?oA ?oB ?m5 ?D0 ?oC ?K2 ?m6 ?K3 ?D1 ?Ad ?wU ?K4 ?K5 ?Ae ?K6 ?D2 ?Af ?Ag ?m7 ?tX ?wV ?wW ?qx ?tY ?wX ?qy ?Ah ?iZ ?iz ?oD ?oE ?oF ?oG ?oH ?cJ ?dq ?dM ?dN ?du ?dO ?cY ?eK ?cK ?ja ?hW ?iG ?iH ?hZ ?iJ ?gS ?jb ?oI ?qz ?qA ?tZ ?qB ?t4 ?m8 ?um ?oJ ?qC ?qD ?t5 ?m9 ?oK ?t6 ?wY ?uW ?uX ?uY ?uZ ?rR ?Ai ?Aj ?Ak ?Al ?jI ?sr ?su ?sv ?sx ?oo ?wZ ?w5 ?w6 ?xa ?i5 ?lL ?kO ?sy ?sA ?sC ?sD ?kI ?xc ?xf ?xg ?xi ?i7 ?lN ?kP ?sE ?xj ?Hu ?Hv ?Rf ?U2 ?Nv ?Rg
    (case K6=>k_is)
    (case D2=>k_is)
    (case Af=>k_is)
    (case Ag=>k_is)
    (case m7=>k_is)
    (case tX=>k_is)
    (case wV=>k_is)
    (case wW=>k_is)
    (case qx=>k_is)
    (case tY=>k_is)
    (case wX=>k_is)
    (case qy=>k_is)
    (case Ah=>k_is)
    (case a0=>k_is)
    (case l0=>k_is)
    (case c0=>k_is)
    (case k0=>k_is)
    (case a1=>k_is)
    (case l1=>k_is)
    (case c1=>k_is)
    (case k1=>k_is)
    (case a2=>k_is)
    (case l2=>k_is)
    (case c2=>k_is)
    (case k2=>k_is)
    (case a3=>k_is)
    (case l3=>k_is)
    (case c3=>k_is)
    (case k3=>k_is)
    (case a4=>k_is)
    (case l4=>k_is)
    (case c4=>k_is)
    (case k4=>k_is)
    (case a5=>k_is)
    (case l5=>k_is)
    (case c5=>k_is)
    (case k5=>k_is)
    (case a6=>k_is)
    (case l6=>k_is)
    (case c6=>k_is)
    (case k6=>k_is)
    (case a7=>k_is)
    (case l7=>k_is)
    (case c7=>k_is)
    (case k7=>k_is)
    (case a8=>k_is)
    (case l8=>k_is)
    (case c8=>k_is)
    (case k8=>k_is)
    (case a9=>k_is)
    (case l9=>k_is)
    (case c9=>k_is)
    (case k9=>k_is)
    (case Yx=>k_is)
    (case l10=>k_is)
    (case Yy=>k_is)
    (case VQ=>k_is)
    (case YK=>k_is)
    (case YL=>k_is)
    (case YM=>k_is)
    (case VR=>k_is)
    (case YY=>k_is)
    (case YZ=>k_is)
    (case Y0=>k_is)
    (case VW=>k_is)
    (case Y9=>k_is)
    (case Za=>k_is)
    (case Zb=>k_is)
    (case VX=>k_is)
    (case Zm=>k_is)
    (case Zn=>k_is)
    (case Zo=>k_is)
    (case VY=>k_is)
    (case Zz=>k_is)
    (case ZC=>k_is)
    (case ZD=>k_is)
    (case VZ=>k_is)
    (case ZM=>k_is)
    (case ZN=>k_is)
    (case c16=>k_is)
    (case V0=>k_is)
    (case ZW=>k_is)
    (case ZX=>k_is)
    (case ZY=>k_is)
    (case V1=>k_is)
    (case Z7=>k_is)
    (case Z8=>k_is)
    (case Z9=>k_is)
    (case V2=>k_is)
    (case a19=>k_is)
    (case l19=>k_is)
    (case c19=>k_is)
    (case V3=>k_is)
    (case a20=>k_is)
    (case l20=>k_is)
    (case c20=>k_is)
    (case V4=>k_is)
    (case a21=>k_is)
    (case l21=>k_is)
    (case c21=>k_is)
    (case V5=>k_is)
    (case a22=>k_is)
    (case l22=>k_is)
    (case c22=>k_is)
    (case V6=>k_is)
    (case V7=>k_is)
    (case l23=>k_is)
    (case c23=>k_is)
    (case k23=>k_is)
    (case a24=>k_is)
    (case UO=>k_is)
    (case l24=>k_is)
    (case c24=>k_is)
    (case Q8=>k_is)
    (case Ra=>k_is)
    (case i25=>k_is)
    (case Ry=>k_is)
    (case V8=>k_is)
    (case UQ=>k_is)
    (case a26=>k_is)
    (case UT=>k_is)
    (case l26=>k_is)
    (case c26=>k_is)
    (case Rb=>k_is)
    (case Rz=>k_is)
    (case i27=>k_is)
    (case UW=>k_is)
    (case c27=>k_is)
    (case UX=>k_is)
    (case UZ=>k_is)
    (case i28=>k_is)
    (case U0=>k_is)
    (case c28=>k_is)
    (case U1=>k_is)
    (case oA=>k_is)
    (case oB=>k_is)
    (case m5=>k_is)
    (case D0=>k_is)
    (case oC=>k_is)
    (case K2=>k_is)
    (case m6=>k_is)
    (case K3=>k_is)
    (case D1=>k_is)
    (case Ad=>k_is)
    (case wU=>k_is)
    (case K4=>k_is)
    (case K5=>k_is)
    (case Ae=>k_is)
    (case iZ=>kernel_rfl)
    (case iz=>kernel_rfl)
    (case oD=>k_is)
    (case oE=>k_is)
    (case oF=>k_is)
    (case oG=>k_is)
    (case oH=>k_is)
    (case cJ=>kernel_rfl)
    (case dq=>k_is)
    (case dM=>k_is)
    (case dN=>k_is)
    (case du=>k_is)
    (case dO=>k_is)
    (case cY=>k_is)
    (case eK=>k_is)
    (case cK=>k_is)
    (case ja=>decide)
    (case hW=>decide)
    (case iG=>decide)
    (case iH=>decide)
    (case hZ=>decide)
    (case iJ=>decide)
    (case gS=>decide)
    (case jb=>decide)
    (case oI=>k_is)
    (case qz=>k_is)
    (case qA=>k_is)
    (case tZ=>k_is)
    (case qB=>k_is)
    (case t4=>k_is)
    (case m8=>k_is)
    (case um=>k_is)
    (case oJ=>k_is)
    (case qC=>k_is)
    (case qD=>k_is)
    (case t5=>k_is)
    (case m9=>k_is)
    (case oK=>k_is)
    (case t6=>k_is)
    (case wY=>k_is)
    (case uW=>k_is)
    (case uX=>k_is)
    (case uY=>k_is)
    (case uZ=>k_is)
    (case rR=>k_is)
    (case Ai=>k_is)
    (case Aj=>k_is)
    (case Ak=>k_is)
    (case Al=>k_is)
    (case jI=>k_is)
    (case sr=>k_is)
    (case su=>k_is)
    (case sv=>k_is)
    (case sx=>k_is)
    (case oo=>k_is)
    (case wZ=>k_is)
    (case w5=>k_is)
    (case w6=>k_is)
    (case xa=>k_is)
    (case i5=>k_is)
    (case lL=>k_is)
    (case kO=>k_is)
    (case sy=>k_is)
    (case sA=>k_is)
    (case sC=>k_is)
    (case sD=>k_is)
    (case kI=>k_is)
    (case xc=>k_is)
    (case xf=>k_is)
    (case xg=>k_is)
    (case xi=>k_is)
    (case i7=>k_is)
    (case lN=>k_is)
    (case kP=>k_is)
    (case sE=>k_is)
    (case xj=>k_is)
    (case Hu=>k_is)
    (case Hv=>k_is)
    (case Rf=>rfl)
    (case U2=>exact km_tabs_of Y _ hI)
    (case Nv=>kernel_rfl)
    (case Rg=>kernel_rfl)
