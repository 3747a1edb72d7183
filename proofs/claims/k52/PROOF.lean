import PyProof.Rows.All
import KE.KNestM
import KE.KSortTup
import KE.KSortKey
import KE.KIsAll
import KE.KLam
import KE.KItem
import OpenK.KOwn
import OpenK.KRaise
import KE.KDictSum
import KE.KRevIter
import KE.KRevSl
import PyProof.StrLawsTight
import PyProof.Rows.StrItems
import KE.KPairComp
import KE.KItemsList
import PySem.Challenge.RW_fairbench_k52_whole_box
set_option Elab.async false
set_option linter.all false
set_option maxRecDepth 100000
set_option maxHeartbeats 4000000
noncomputable section
abbrev dX:=List (List Int×Int)
abbrev gu:=List (PySem.Addr×PySem.Obj)
abbrev LR9:=List (Int×Option Rat)
abbrev By:=List (Int×List Int)
abbrev bK:=List Int
abbrev cv:=List PySem.Value
abbrev fR:=PySem.Value→PySem.Shared→Prop
abbrev dC:=List PySem.Str
abbrev fu:=Option PySem.Value
theorem cR:type_of% @Option.bind_eq_some_iff:=@Option.bind_eq_some_iff
theorem cS {α:Type} {a:α} {l:List α}:(a::l)[0]?=some a:=rfl
theorem aT:type_of% @PySem.wpAny_bind:=@PySem.wpAny_bind
theorem cf {α β:Type} {a:α} {f:α→Option β}:(some a).bind f=f a:=rfl
theorem dO {α:Type} {a:α} {l:List α} {i:Nat}:(a::l)[i+1]?=l[i]?:=rfl
theorem eo:type_of% @PySem.Heap.get?_push_of_some:=@PySem.Heap.get?_push_of_some
theorem iB:type_of% @Option.map_eq_some_iff:=@Option.map_eq_some_iff
theorem cu:type_of% @PySem.wpAny_pure:=@PySem.wpAny_pure
theorem eD {α β:Type} {a:α} {f:α→β}:(some a).map f=some (f a):=rfl
theorem fG:type_of% @List.length_map:=@List.length_map
theorem cT:type_of% @PySem.Heap.get?_push_size:=@PySem.Heap.get?_push_size
theorem ay:type_of% @if_pos:=@if_pos
theorem az:type_of% @if_neg:=@if_neg
theorem eP:type_of% @List.getElem?_eq_getElem:=@List.getElem?_eq_getElem
theorem bL:type_of% @PySem.Heap.lt_size:=@PySem.Heap.lt_size
theorem bG:type_of% @Nat.le_refl:=@Nat.le_refl
theorem et:type_of% @List.mem_cons_of_mem:=@List.mem_cons_of_mem
theorem cB:type_of% @List.map_cons:=@List.map_cons
theorem jb:type_of% @List.getD_eq_getElem?_getD:=@List.getD_eq_getElem?_getD
theorem eE:type_of% @List.size_toArray:=@List.size_toArray
theorem eR:type_of% @List.mem_cons_self:=@List.mem_cons_self
theorem eS:type_of% @List.getElem?_map:=@List.getElem?_map
theorem dm:type_of% @List.mem_cons:=@List.mem_cons
theorem eT:type_of% @List.length_cons:=@List.length_cons
theorem eU:type_of% @List.all_eq_true:=@List.all_eq_true
theorem gP:type_of% @Bool.false_ne_true:=@Bool.false_ne_true
theorem kJ:type_of% @List.getElem?_eq_some_iff:=@List.getElem?_eq_some_iff
theorem dw:type_of% @Nat.ne_of_lt:=@Nat.ne_of_lt
theorem jc:type_of% @Array.length_toList:=@Array.length_toList
theorem kx:type_of% @List.mem_append_right:=@List.mem_append_right
theorem jd {α:Type} {x a:α} {l:List α}:(x::l).set 0 a=a::l:=rfl
theorem gQ:type_of% @decide_eq_false:=@decide_eq_false
theorem jF {α:Type} {x a:α} {l:List α} {i:Nat}:(x::l).set (i+1) a=x::l.set i a:=rfl
theorem jX:type_of% @Nat.lt_of_lt_of_le:=@Nat.lt_of_lt_of_le
theorem fA:type_of% @List.map_map:=@List.map_map
theorem cw:type_of% @if_true:=@if_true
theorem jG:type_of% @Option.some.inj:=@Option.some.inj
theorem gy:type_of% @Nat.le_trans:=@Nat.le_trans
theorem gC:type_of% @List.mem_map:=@List.mem_map
theorem lZ:type_of% @List.length_append:=@List.length_append
theorem iC:type_of% @Nat.zero_le:=@Nat.zero_le
theorem ug:type_of% @Array.getElem?_eq_getElem:=@Array.getElem?_eq_getElem
theorem ig:type_of% @PySem.sizeLine_eq:=@PySem.sizeLine_eq
theorem dq:type_of% @Ne.symm:=@Ne.symm
theorem md:type_of% @List.mem_append:=@List.mem_append
theorem kK:type_of% @PySem.Heap.size_push:=@PySem.Heap.size_push
theorem pE:type_of% @PySem.Heap.SameBut.update:=@PySem.Heap.SameBut.update
theorem nL:type_of% @PySem.wpAny_call_entry:=@PySem.wpAny_call_entry
theorem oz:type_of% @Bool.and_eq_true:=@Bool.and_eq_true
theorem mh:type_of% @decide_eq_true:=@decide_eq_true
theorem mj:type_of% @List.mem_range:=@List.mem_range
theorem sX:type_of% @PySem.Heap.get?_update_self:=@PySem.Heap.get?_update_self
theorem xB:type_of% @List.getElem?_append_right:=@List.getElem?_append_right
theorem rj:type_of% @Int.toNat_natCast:=@Int.toNat_natCast
theorem fS:type_of% @congrArg:=@congrArg
theorem xC:type_of% @List.getElem?_append_left:=@List.getElem?_append_left
theorem sY:type_of% @Int.emod_lt_of_pos:=@Int.emod_lt_of_pos
theorem vZ:type_of% @PySem.wpAny_callSpecial?_slot:=@PySem.wpAny_callSpecial?_slot
theorem pF:type_of% @Int.emod_nonneg:=@Int.emod_nonneg
theorem pG:type_of% @Bool.eq_iff_iff:=@Bool.eq_iff_iff
theorem v3:type_of% @Array.getElem?_toList:=@Array.getElem?_toList
theorem ml:type_of% @Nat.le_of_lt:=@Nat.le_of_lt
theorem sZ:type_of% @PySem.wpAny_Call_Name_kw:=@PySem.wpAny_Call_Name_kw
theorem v5:type_of% @List.getElem?_set_ne:=@List.getElem?_set_ne
theorem uh:type_of% @Bool.false_eq_true:=@Bool.false_eq_true
theorem rm:type_of% @List.find?_cons:=@List.find?_cons
theorem xD:type_of% @List.getElem?_set_self:=@List.getElem?_set_self
theorem xE:type_of% @List.contains_iff_mem:=@List.contains_iff_mem
theorem ui:type_of% @PySem.wpAny_setField_rec:=@PySem.wpAny_setField_rec
theorem tf:type_of% @PySem.W.kia_one:=@PySem.W.kia_one
theorem Bz:type_of% @PyProof.Rows.callWith_type1:=@PyProof.Rows.callWith_type1
theorem rn:type_of% @Nat.lt_irrefl:=@Nat.lt_irrefl
theorem pI:type_of% @PySem.wpAny_holding:=@PySem.wpAny_holding
theorem jJ:type_of% @if_false:=@if_false
theorem pJ:type_of% @PySem.Paired.length:=@PySem.Paired.length
theorem pK:type_of% @Nat.ne_of_gt:=@Nat.ne_of_gt
theorem v9:type_of% @PySem.Calls.spliced_cons:=@PySem.Calls.spliced_cons
theorem rq:type_of% @List.map_nil:=@List.map_nil
theorem mq:type_of% @PySem.wpAny_mono:=@PySem.wpAny_mono
theorem zx:type_of% @List.mem_of_getElem?:=@List.mem_of_getElem?
theorem wa:type_of% @List.map_append:=@List.map_append
theorem BD:type_of% @Array.getElem?_eq_none:=@Array.getElem?_eq_none
theorem zy:type_of% @PySem.F.called_set:=@PySem.F.called_set
theorem BE:type_of% @List.getElem?_eq_none:=@List.getElem?_eq_none
theorem xF:type_of% @PySem.wpAny_dictEntries:=@PySem.wpAny_dictEntries
theorem xG:type_of% @PySem.Calls.spliced_nil:=@PySem.Calls.spliced_nil
theorem xH:type_of% @List.append_nil:=@List.append_nil
open PySem.W (instObj methodObj lookIn plainGet hasDictIn handedIn plainGet_of isFn plainOver takerIn makesIn typeIn emptyDict keepIn methodCall_KW kitOne kia_one kitx_list kitx_dict callWith_K cellsFrom_some fnOf codeIn binds_K nsIn mg_of)
variable {ks us:List PySem.Value} {qual x:PySem.Str} {ov u:PySem.Value} {C a b d fn it p:PySem.Addr} {P:PySem.Program} {w:PySem.World} {h h':PySem.Heap} {ep i j k n t':Nat} {e tg:PySem.Expr} {N:List PySem.Str} {A:PySem.Around} {E Q:PySem.Value→PySem.Shared→Prop} {s:PySem.Shared} {pins:List (PySem.Addr×PySem.Obj)} {f:PySem.Value→PySem.Value→PySem.Sem PySem.Value} {apos aX p2 pos pos' px:PySem.Pos} {op:PySem.CmpOp} {c:Int} {es:Array PySem.DictEntry} {body:List PySem.Stmt} {l:List (Int×PySem.Value)} {ex fp:List PySem.Addr} {pl:PySem.Sem Bool} {like ns:bK} {kw:List (PySem.Str×PySem.Value)} {mg:PySem.Str→Option PySem.Value} {fd:PySem.FuncData} {ps rs:dX} {an od:Option PySem.Addr} {wc:Array (Option PySem.Value)} {ms:List Bool} {ys:Array PySem.Value} {T:String} {XP:(PySem.Str→Option PySem.Value)→PySem.Heap→Prop} {YP:PySem.World→PySem.Heap→Prop} {S fi:List Nat} {elts:List PySem.Expr} {ws:List (List Nat)} {led:Bool}
namespace L2
open PySem
def inClass(s:Stmt)(j:Nat):Stmt:=match s with
  |.ClassDef _ _ _ body _ _ _ _ _ _ _=>body.getD j (.Pass ⟨0,0,0,0⟩)
  |_=>.Pass ⟨0,0,0,0⟩
def bM(s:Stmt):Arguments:=match s with
  |.FunctionDef _ a _ _ _ _ _ _ _ _=>a
  |_=>{ posonlyargs:=[],args:=[],vararg:=none,kwonlyargs:=[],kw_defaults:=[],kwarg:=none,defaults:=[] }
def bA(s:Stmt):List Stmt:=match s with
  |.FunctionDef _ _ b _ _ _ _ _ _ _=>b
  |_=>[]
def aj(s:Stmt):Scope:=match s with
  |.FunctionDef _ _ _ _ _ _ sc _ _ _=>sc
  |_=>{ kind:=.function,names:=[],isGenerator:=false,isCoroutine:=false }
end L2
namespace HH
open PySem PySem.W PyProof.Rows L2
def pw(i:Nat):Stmt:=PySem.Challenge.pw_fairbench_k52_whole_box.main.body.getD i (.Pass ⟨0,0,0,0⟩)
abbrev sH(x:String)(t:Nat):Value:=.str (Str.ofString x) t
abbrev rH(a:Nat):Value:=.ref a
abbrev jH(i:Int)(t:Nat):Value:=.int i t
def eH(P:Params)(x:String)(t:Nat)(v:Value):DictEntry:=⟨PyData.keyHash P (Str.ofString x),.str (Str.ofString x) t,v⟩
def tH(l:Array Value):Obj:={ cls:=.type "tuple",data:=.seq l }
def cH(l:Array Value):Obj:={ cls:=.type "code",data:=.fields l }
def dH(l:Array DictEntry)(n:Nat):Obj:={ cls:=.type "dict",data:=.dict l n }
def fH(x q:String)(s:Stmt)(m:String)(t c:Nat):Obj:={ cls:=.type "function",data:=.func { name:=x,qualname:=q,params:=bM s,body:=.stmts (bA s),scope:=aj s,globals:=3,closure:=[],defaults:=.none,kwdefaults:=.none,pyModule:=.str (Str.ofString m) t,code:=.ref c } }
def pH(x q:String)(s:Stmt)(m:String)(t c d:Nat):Obj:={ cls:=.type "function",data:=.func { name:=x,qualname:=q,params:=bM s,body:=.stmts (bA s),scope:=aj s,globals:=3,closure:=[],defaults:=.ref d,kwdefaults:=.none,pyModule:=.str (Str.ofString m) t,code:=.ref c } }
def KH:Params→PySem.W.Frag:=fun P=>(nat_lit 2,{ cls:=.none,data:=.dict #[] }) ::
(nat_lit 3,dH #[eH P "__name__" 165 (sH "law_fairbench_k52_whole_box" 458),eH P "__doc__" 166 .none,eH P "__package__" 167 .none,eH P "__loader__" 168 (.builtin "__main__.__loader__#opaque"),eH P "__spec__" 169 .none,eH P "__annotations__" 170 (rH 6),eH P "__builtins__" 171 (rH 4),eH P "__file__" 173 (sH "/claim/cut.py" 172),eH P "__cached__" 174 .none,eH P "_wall" 193 (rH 21),eH P "BenchError" 213 (rH 31),eH P "NoCount" 229 (rH 44),eH P "NoName" 245 (rH 56),eH P "NoHeap" 261 (rH 68),eH P "NoRoll" 277 (rH 80),eH P "NoBallot" 293 (rH 92),eH P "MOST_NAMES" 297 (jH 6 296),eH P "heaps_of" 303 (rH 99),eH P "rank" 310 (rH 106),eH P "check_count" 317 (rH 113),eH P "check_names" 328 (rH 120),eH P "check_ballots" 334 (rH 125),eH P "put_together" 345 (rH 132),eH P "LETTERS" 349 (sH "abcdefghijklmnopqrstuvwxyz" 348),eH P "MOST_SIGNS" 351 (jH 12 350),eH P "Box" 426 (rH 184),eH P "check_roll" 434 (rH 195),eH P "is_word" 440 (rH 200),eH P "names_in" 450 (rH 207),eH P "check_many" 457 (rH 214),eH P "_law_cell_at" 467 (rH 221),eH P "_law_mixed" 478 (rH 228),eH P "_law_base" 489 (rH 235),eH P "_law_word" 501 (rH 242),eH P "_law_words" 516 (rH 249),eH P "_law_whole" 523 (rH 256),eH P "_law_same" 532 (rH 263),eH P "_law_before" 542 (rH 270),eH P "_law_heaps" 548 (rH 275),eH P "_law_like" 554 (rH 280),eH P "_law_good" 560 (rH 285),eH P "_law_right" 572 (rH 292),eH P "_law_moved" 578 (rH 297),eH P "law" 593 (rH 304)] 44) ::
(nat_lit 15,tH #[]) ::
(nat_lit 17,tH #[sH "k" 190]) ::
(nat_lit 18,tH #[]) ::
(nat_lit 20,cH #[sH "_wall" 187,sH "_wall" 188,sH "/claim/cut.py" 189,jH 1 0,jH 1 0,jH 0 0,jH 0 0,jH 3 0,rH 15,.bool true,jH 181 0,rH 16,.none,rH 17,rH 18,rH 19,jH 191 0,jH 1 0,sH "/claim/cut.py" 192]) ::
(nat_lit 21,fH "_wall" "_wall" (pw 0) "__main__" 164 20) ::
(nat_lit 22,tH #[.type "ValueError"]) ::
(nat_lit 29,tH #[]) ::
(nat_lit 30,dH #[eH P "__module__" 203 (sH "fairbench.errors" 194),eH P "__firstlineno__" 207 (jH 5 206),eH P "__static_attributes__" 208 (rH 29),eH P "__weakref__" 210 (rH 32),eH P "__doc__" 211 .none] 3) ::
(nat_lit 31,{ cls:=.type "type",data:=.cls { name:="BenchError",bases:=[.type "ValueError"],mro:=[rH 31,.type "ValueError",.type "Exception",.type "BaseException",.type "object"],ns:=30,qualname:="BenchError",subclasses:=[rH 44,rH 56,rH 68,rH 80,rH 92] },slots:=#[some (rH 22),none,some (sH "BenchError" 196),some (sH "BenchError" 204),some (.builtin "ValueError.__new__"),some (.bool true)] }) ::
(nat_lit 32,{ cls:=.type "getset_descriptor",data:=.fields #[sH "__weakref__" 209,rH 31,.builtin "ExceptionGroup.__weakref__",.none] }) ::
(nat_lit 35,tH #[rH 31]) ::
(nat_lit 42,tH #[]) ::
(nat_lit 43,dH #[eH P "__module__" 221 (sH "fairbench.errors" 194),eH P "__firstlineno__" 225 (jH 7 224),eH P "__static_attributes__" 226 (rH 42),eH P "__doc__" 227 .none] 2) ::
(nat_lit 44,{ cls:=.type "type",data:=.cls { name:="NoCount",bases:=[rH 31],mro:=[rH 44,rH 31,.type "ValueError",.type "Exception",.type "BaseException",.type "object"],ns:=43,qualname:="NoCount" },slots:=#[some (rH 35),none,some (sH "NoCount" 214),some (sH "NoCount" 222),some (.builtin "ValueError.__new__"),some (.bool true)] }) ::
(nat_lit 47,tH #[rH 31]) ::
(nat_lit 54,tH #[]) ::
(nat_lit 55,dH #[eH P "__module__" 237 (sH "fairbench.errors" 194),eH P "__firstlineno__" 241 (jH 9 240),eH P "__static_attributes__" 242 (rH 54),eH P "__doc__" 243 .none] 2) ::
(nat_lit 56,{ cls:=.type "type",data:=.cls { name:="NoName",bases:=[rH 31],mro:=[rH 56,rH 31,.type "ValueError",.type "Exception",.type "BaseException",.type "object"],ns:=55,qualname:="NoName" },slots:=#[some (rH 47),none,some (sH "NoName" 230),some (sH "NoName" 238),some (.builtin "ValueError.__new__"),some (.bool true)] }) ::
(nat_lit 59,tH #[rH 31]) ::
(nat_lit 66,tH #[]) ::
(nat_lit 67,dH #[eH P "__module__" 253 (sH "fairbench.errors" 194),eH P "__firstlineno__" 257 (jH 11 256),eH P "__static_attributes__" 258 (rH 66),eH P "__doc__" 259 .none] 2) ::
(nat_lit 68,{ cls:=.type "type",data:=.cls { name:="NoHeap",bases:=[rH 31],mro:=[rH 68,rH 31,.type "ValueError",.type "Exception",.type "BaseException",.type "object"],ns:=67,qualname:="NoHeap" },slots:=#[some (rH 59),none,some (sH "NoHeap" 246),some (sH "NoHeap" 254),some (.builtin "ValueError.__new__"),some (.bool true)] }) ::
(nat_lit 71,tH #[rH 31]) ::
(nat_lit 78,tH #[]) ::
(nat_lit 79,dH #[eH P "__module__" 269 (sH "fairbench.errors" 194),eH P "__firstlineno__" 273 (jH 13 272),eH P "__static_attributes__" 274 (rH 78),eH P "__doc__" 275 .none] 2) ::
(nat_lit 80,{ cls:=.type "type",data:=.cls { name:="NoRoll",bases:=[rH 31],mro:=[rH 80,rH 31,.type "ValueError",.type "Exception",.type "BaseException",.type "object"],ns:=79,qualname:="NoRoll" },slots:=#[some (rH 71),none,some (sH "NoRoll" 262),some (sH "NoRoll" 270),some (.builtin "ValueError.__new__"),some (.bool true)] }) ::
(nat_lit 83,tH #[rH 31]) ::
(nat_lit 90,tH #[]) ::
(nat_lit 91,dH #[eH P "__module__" 285 (sH "fairbench.errors" 194),eH P "__firstlineno__" 289 (jH 15 288),eH P "__static_attributes__" 290 (rH 90),eH P "__doc__" 291 .none] 2) ::
(nat_lit 92,{ cls:=.type "type",data:=.cls { name:="NoBallot",bases:=[rH 31],mro:=[rH 92,rH 31,.type "ValueError",.type "Exception",.type "BaseException",.type "object"],ns:=91,qualname:="NoBallot" },slots:=#[some (rH 83),none,some (sH "NoBallot" 278),some (sH "NoBallot" 286),some (.builtin "ValueError.__new__"),some (.bool true)] }) ::
(nat_lit 95,tH #[]) ::
(nat_lit 98,cH #[sH "heaps_of" 298,sH "heaps_of" 299,sH "/claim/cut.py" 300,jH 19 0,jH 2 0,jH 0 0,jH 0 0,jH 3 0,rH 95,.bool true,jH 181 0,rH 96,.none,.none,.none,rH 97,jH 301 0,jH 19 0,sH "/claim/cut.py" 302]) ::
(nat_lit 99,fH "heaps_of" "heaps_of" (pw 10) "fairbench.heaps" 294 98) ::
(nat_lit 100,tH #[]) ::
(nat_lit 102,tH #[sH "names" 307]) ::
(nat_lit 103,tH #[]) ::
(nat_lit 105,cH #[sH "rank" 304,sH "rank" 305,sH "/claim/cut.py" 306,jH 25 0,jH 1 0,jH 0 0,jH 0 0,jH 3 0,rH 100,.bool true,jH 181 0,rH 101,.none,rH 102,rH 103,rH 104,jH 308 0,jH 25 0,sH "/claim/cut.py" 309]) ::
(nat_lit 106,fH "rank" "rank" (pw 11) "fairbench.heaps" 294 105) ::
(nat_lit 107,tH #[]) ::
(nat_lit 109,tH #[sH "count" 314]) ::
(nat_lit 110,tH #[]) ::
(nat_lit 112,cH #[sH "check_count" 311,sH "check_count" 312,sH "/claim/cut.py" 313,jH 27 0,jH 1 0,jH 0 0,jH 0 0,jH 3 0,rH 107,.bool true,jH 181 0,rH 108,.none,rH 109,rH 110,rH 111,jH 315 0,jH 27 0,sH "/claim/cut.py" 316]) ::
(nat_lit 113,fH "check_count" "check_count" (pw 12) "fairbench.heaps" 294 112) ::
(nat_lit 114,tH #[]) ::
(nat_lit 116,tH #[sH "count" 321,sH "rows" 322,sH "names" 323,sH "many" 324,sH "name" 325]) ::
(nat_lit 117,tH #[]) ::
(nat_lit 119,cH #[sH "check_names" 318,sH "check_names" 319,sH "/claim/cut.py" 320,jH 30 0,jH 2 0,jH 0 0,jH 0 0,jH 3 0,rH 114,.bool true,jH 181 0,rH 115,.none,rH 116,rH 117,rH 118,jH 326 0,jH 30 0,sH "/claim/cut.py" 327]) ::
(nat_lit 120,fH "check_names" "check_names" (pw 13) "fairbench.heaps" 294 119) ::
(nat_lit 121,tH #[]) ::
(nat_lit 124,cH #[sH "check_ballots" 329,sH "check_ballots" 330,sH "/claim/cut.py" 331,jH 35 0,jH 1 0,jH 0 0,jH 0 0,jH 3 0,rH 121,.bool true,jH 181 0,rH 122,.none,.none,.none,rH 123,jH 332 0,jH 35 0,sH "/claim/cut.py" 333]) ::
(nat_lit 125,fH "check_ballots" "check_ballots" (pw 14) "fairbench.heaps" 294 124) ::
(nat_lit 126,tH #[]) ::
(nat_lit 128,tH #[sH "rows" 338,sH "together" 339,sH "row" 340,sH "many" 341,sH "names" 342]) ::
(nat_lit 129,tH #[]) ::
(nat_lit 131,cH #[sH "put_together" 335,sH "put_together" 336,sH "/claim/cut.py" 337,jH 41 0,jH 1 0,jH 0 0,jH 0 0,jH 3 0,rH 126,.bool true,jH 181 0,rH 127,.none,rH 128,rH 129,rH 130,jH 343 0,jH 41 0,sH "/claim/cut.py" 344]) ::
(nat_lit 132,fH "put_together" "put_together" (pw 15) "fairbench.heaps" 294 131) ::
(nat_lit 140,tH #[]) ::
(nat_lit 142,tH #[sH "self" 367,sH "words" 368]) ::
(nat_lit 143,tH #[]) ::
(nat_lit 145,cH #[sH "__init__" 364,sH "Box.__init__" 365,sH "/claim/cut.py" 366,jH 53 0,jH 2 0,jH 0 0,jH 0 0,jH 3 0,rH 140,.bool true,jH 181 0,rH 141,.none,rH 142,rH 143,rH 144,jH 369 0,jH 53 0,sH "/claim/cut.py" 370]) ::
(nat_lit 146,fH "__init__" "Box.__init__" (inClass (pw 19) 0) "fairbench.box" 346 145) ::
(nat_lit 147,tH #[jH 1 372]) ::
(nat_lit 148,tH #[]) ::
(nat_lit 150,tH #[sH "self" 376,sH "text" 377,sH "many" 378,sH "names" 379]) ::
(nat_lit 151,tH #[]) ::
(nat_lit 153,cH #[sH "put" 373,sH "Box.put" 374,sH "/claim/cut.py" 375,jH 58 0,jH 3 0,jH 0 0,jH 0 0,jH 3 0,rH 148,.bool true,jH 181 0,rH 149,.none,rH 150,rH 151,rH 152,jH 380 0,jH 58 0,sH "/claim/cut.py" 381]) ::
(nat_lit 154,pH "put" "Box.put" (inClass (pw 19) 1) "fairbench.box" 346 153 147) ::
(nat_lit 155,tH #[jH 1 383]) ::
(nat_lit 156,tH #[]) ::
(nat_lit 158,tH #[sH "self" 387,sH "text" 388,sH "many" 389,sH "names" 390,sH "left" 391]) ::
(nat_lit 159,tH #[]) ::
(nat_lit 161,cH #[sH "take" 384,sH "Box.take" 385,sH "/claim/cut.py" 386,jH 63 0,jH 3 0,jH 0 0,jH 0 0,jH 3 0,rH 156,.bool true,jH 181 0,rH 157,.none,rH 158,rH 159,rH 160,jH 392 0,jH 63 0,sH "/claim/cut.py" 393]) ::
(nat_lit 162,pH "take" "Box.take" (inClass (pw 19) 2) "fairbench.box" 346 161 155) ::
(nat_lit 163,tH #[]) ::
(nat_lit 165,tH #[sH "self" 398]) ::
(nat_lit 166,tH #[]) ::
(nat_lit 168,cH #[sH "count" 395,sH "Box.count" 396,sH "/claim/cut.py" 397,jH 71 0,jH 1 0,jH 0 0,jH 0 0,jH 3 0,rH 163,.bool true,jH 181 0,rH 164,.none,rH 165,rH 166,rH 167,jH 399 0,jH 71 0,sH "/claim/cut.py" 400]) ::
(nat_lit 169,fH "count" "Box.count" (inClass (pw 19) 3) "fairbench.box" 346 168) ::
(nat_lit 170,tH #[]) ::
(nat_lit 173,cH #[sH "heaps" 402,sH "Box.heaps" 403,sH "/claim/cut.py" 404,jH 74 0,jH 1 0,jH 0 0,jH 0 0,jH 3 0,rH 170,.bool true,jH 181 0,rH 171,.none,.none,.none,rH 172,jH 405 0,jH 74 0,sH "/claim/cut.py" 406]) ::
(nat_lit 174,fH "heaps" "Box.heaps" (inClass (pw 19) 4) "fairbench.box" 346 173) ::
(nat_lit 175,tH #[]) ::
(nat_lit 177,tH #[sH "self" 411,sH "way" 412,sH "places" 413]) ::
(nat_lit 178,tH #[]) ::
(nat_lit 180,cH #[sH "bench" 408,sH "Box.bench" 409,sH "/claim/cut.py" 410,jH 79 0,jH 3 0,jH 0 0,jH 0 0,jH 3 0,rH 175,.bool true,jH 181 0,rH 176,.none,rH 177,rH 178,rH 179,jH 414 0,jH 79 0,sH "/claim/cut.py" 415]) ::
(nat_lit 181,fH "bench" "Box.bench" (inClass (pw 19) 5) "fairbench.box" 346 180) ::
(nat_lit 182,tH #[sH "lying" 417,sH "words" 418]) ::
(nat_lit 183,dH #[eH P "__module__" 359 (sH "fairbench.box" 346),eH P "__firstlineno__" 363 (jH 51 362),eH P "__init__" 371 (rH 146),eH P "put" 382 (rH 154),eH P "take" 394 (rH 162),eH P "count" 401 (rH 169),eH P "heaps" 407 (rH 174),eH P "bench" 416 (rH 181),eH P "__static_attributes__" 419 (rH 182),eH P "__dict__" 421 (rH 185),eH P "__weakref__" 423 (rH 186),eH P "__doc__" 424 .none] 4) ::
(nat_lit 184,{ cls:=.type "type",data:=.cls { name:="Box",bases:=[.type "object"],mro:=[rH 184,.type "object"],ns:=183,qualname:="Box" },slots:=#[none,none,some (sH "Box" 352),some (sH "Box" 360),some (.builtin "object.__new__"),some (.bool true)] }) ::
(nat_lit 185,{ cls:=.type "getset_descriptor",data:=.fields #[sH "__dict__" 420,rH 184,.builtin "function.__dict__",.builtin "function.__dict__#set"] }) ::
(nat_lit 186,{ cls:=.type "getset_descriptor",data:=.fields #[sH "__weakref__" 422,rH 184,.builtin "ExceptionGroup.__weakref__",.none] }) ::
(nat_lit 189,tH #[]) ::
(nat_lit 191,tH #[sH "words" 430,sH "word" 431]) ::
(nat_lit 192,tH #[]) ::
(nat_lit 194,cH #[sH "check_roll" 427,sH "check_roll" 428,sH "/claim/cut.py" 429,jH 81 0,jH 1 0,jH 0 0,jH 0 0,jH 3 0,rH 189,.bool true,jH 181 0,rH 190,.none,rH 191,rH 192,rH 193,jH 432 0,jH 81 0,sH "/claim/cut.py" 433]) ::
(nat_lit 195,fH "check_roll" "check_roll" (pw 20) "fairbench.box" 346 194) ::
(nat_lit 196,tH #[]) ::
(nat_lit 199,cH #[sH "is_word" 435,sH "is_word" 436,sH "/claim/cut.py" 437,jH 89 0,jH 1 0,jH 0 0,jH 0 0,jH 3 0,rH 196,.bool true,jH 181 0,rH 197,.none,.none,.none,rH 198,jH 438 0,jH 89 0,sH "/claim/cut.py" 439]) ::
(nat_lit 200,fH "is_word" "is_word" (pw 21) "fairbench.box" 346 199) ::
(nat_lit 201,tH #[]) ::
(nat_lit 203,tH #[sH "words" 444,sH "text" 445,sH "names" 446,sH "word" 447]) ::
(nat_lit 204,tH #[]) ::
(nat_lit 206,cH #[sH "names_in" 441,sH "names_in" 442,sH "/claim/cut.py" 443,jH 93 0,jH 2 0,jH 0 0,jH 0 0,jH 3 0,rH 201,.bool true,jH 181 0,rH 202,.none,rH 203,rH 204,rH 205,jH 448 0,jH 93 0,sH "/claim/cut.py" 449]) ::
(nat_lit 207,fH "names_in" "names_in" (pw 22) "fairbench.box" 346 206) ::
(nat_lit 208,tH #[]) ::
(nat_lit 210,tH #[sH "many" 454]) ::
(nat_lit 211,tH #[]) ::
(nat_lit 213,cH #[sH "check_many" 451,sH "check_many" 452,sH "/claim/cut.py" 453,jH 101 0,jH 1 0,jH 0 0,jH 0 0,jH 3 0,rH 208,.bool true,jH 181 0,rH 209,.none,rH 210,rH 211,rH 212,jH 455 0,jH 101 0,sH "/claim/cut.py" 456]) ::
(nat_lit 214,fH "check_many" "check_many" (pw 23) "fairbench.box" 346 213) ::
(nat_lit 215,tH #[]) ::
(nat_lit 217,tH #[sH "_law_script" 463,sH "_law_k" 464]) ::
(nat_lit 218,tH #[]) ::
(nat_lit 220,cH #[sH "_law_cell_at" 460,sH "_law_cell_at" 461,sH "/claim/cut.py" 462,jH 105 0,jH 2 0,jH 0 0,jH 0 0,jH 3 0,rH 215,.bool true,jH 181 0,rH 216,.none,rH 217,rH 218,rH 219,jH 465 0,jH 105 0,sH "/claim/cut.py" 466]) ::
(nat_lit 221,fH "_law_cell_at" "_law_cell_at" (pw 25) "law_fairbench_k52_whole_box" 458 220) ::
(nat_lit 222,tH #[]) ::
(nat_lit 224,tH #[sH "_law_cell" 471,sH "_law_many" 472,sH "_law_found" 473,sH "_law_number" 474,sH "_law_k" 475]) ::
(nat_lit 225,tH #[]) ::
(nat_lit 227,cH #[sH "_law_mixed" 468,sH "_law_mixed" 469,sH "/claim/cut.py" 470,jH 109 0,jH 2 0,jH 0 0,jH 0 0,jH 3 0,rH 222,.bool true,jH 181 0,rH 223,.none,rH 224,rH 225,rH 226,jH 476 0,jH 109 0,sH "/claim/cut.py" 477]) ::
(nat_lit 228,fH "_law_mixed" "_law_mixed" (pw 26) "law_fairbench_k52_whole_box" 458 227) ::
(nat_lit 229,tH #[]) ::
(nat_lit 231,tH #[sH "_law_cell" 482,sH "_law_size" 483,sH "_law_found" 484,sH "_law_rest" 485,sH "_law_k" 486]) ::
(nat_lit 232,tH #[]) ::
(nat_lit 234,cH #[sH "_law_base" 479,sH "_law_base" 480,sH "/claim/cut.py" 481,jH 122 0,jH 2 0,jH 0 0,jH 0 0,jH 3 0,rH 229,.bool true,jH 181 0,rH 230,.none,rH 231,rH 232,rH 233,jH 487 0,jH 122 0,sH "/claim/cut.py" 488]) ::
(nat_lit 235,fH "_law_base" "_law_base" (pw 27) "law_fairbench_k52_whole_box" 458 234) ::
(nat_lit 236,tH #[]) ::
(nat_lit 238,tH #[sH "_law_base_here" 493,sH "_law_place" 494,sH "_law_size" 495,sH "_law_k" 496,sH "_law_letters" 497,sH "_law_other" 498]) ::
(nat_lit 239,tH #[]) ::
(nat_lit 241,cH #[sH "_law_word" 490,sH "_law_word" 491,sH "/claim/cut.py" 492,jH 134 0,jH 4 0,jH 0 0,jH 0 0,jH 3 0,rH 236,.bool true,jH 181 0,rH 237,.none,rH 238,rH 239,rH 240,jH 499 0,jH 134 0,sH "/claim/cut.py" 500]) ::
(nat_lit 242,fH "_law_word" "_law_word" (pw 28) "law_fairbench_k52_whole_box" 458 241) ::
(nat_lit 243,tH #[]) ::
(nat_lit 245,tH #[sH "_law_script" 505,sH "_law_at" 506,sH "_law_many" 507,sH "_law_cell" 508,sH "_law_size" 509,sH "_law_base_here" 510,sH "_law_words_here" 511,sH "_law_k" 512,sH "_law_word_here" 513]) ::
(nat_lit 246,tH #[]) ::
(nat_lit 248,cH #[sH "_law_words" 502,sH "_law_words" 503,sH "/claim/cut.py" 504,jH 138 0,jH 3 0,jH 0 0,jH 0 0,jH 3 0,rH 243,.bool true,jH 181 0,rH 244,.none,rH 245,rH 246,rH 247,jH 514 0,jH 138 0,sH "/claim/cut.py" 515]) ::
(nat_lit 249,fH "_law_words" "_law_words" (pw 29) "law_fairbench_k52_whole_box" 458 248) ::
(nat_lit 250,tH #[]) ::
(nat_lit 252,tH #[sH "_law_found" 520]) ::
(nat_lit 253,tH #[]) ::
(nat_lit 255,cH #[sH "_law_whole" 517,sH "_law_whole" 518,sH "/claim/cut.py" 519,jH 149 0,jH 1 0,jH 0 0,jH 0 0,jH 3 0,rH 250,.bool true,jH 181 0,rH 251,.none,rH 252,rH 253,rH 254,jH 521 0,jH 149 0,sH "/claim/cut.py" 522]) ::
(nat_lit 256,fH "_law_whole" "_law_whole" (pw 30) "law_fairbench_k52_whole_box" 458 255) ::
(nat_lit 257,tH #[]) ::
(nat_lit 259,tH #[sH "_law_found" 527,sH "_law_due" 528,sH "_law_k" 529]) ::
(nat_lit 260,tH #[]) ::
(nat_lit 262,cH #[sH "_law_same" 524,sH "_law_same" 525,sH "/claim/cut.py" 526,jH 151 0,jH 2 0,jH 0 0,jH 0 0,jH 3 0,rH 257,.bool true,jH 181 0,rH 258,.none,rH 259,rH 260,rH 261,jH 530 0,jH 151 0,sH "/claim/cut.py" 531]) ::
(nat_lit 263,fH "_law_same" "_law_same" (pw 31) "law_fairbench_k52_whole_box" 458 262) ::
(nat_lit 264,tH #[]) ::
(nat_lit 266,tH #[sH "_law_one" 536,sH "_law_two" 537,sH "_law_left" 538,sH "_law_right_here" 539]) ::
(nat_lit 267,tH #[]) ::
(nat_lit 269,cH #[sH "_law_before" 533,sH "_law_before" 534,sH "/claim/cut.py" 535,jH 168 0,jH 2 0,jH 0 0,jH 0 0,jH 3 0,rH 264,.bool true,jH 181 0,rH 265,.none,rH 266,rH 267,rH 268,jH 540 0,jH 168 0,sH "/claim/cut.py" 541]) ::
(nat_lit 270,fH "_law_before" "_law_before" (pw 32) "law_fairbench_k52_whole_box" 458 269) ::
(nat_lit 271,tH #[]) ::
(nat_lit 274,cH #[sH "_law_heaps" 543,sH "_law_heaps" 544,sH "/claim/cut.py" 545,jH 175 0,jH 1 0,jH 0 0,jH 0 0,jH 3 0,rH 271,.bool true,jH 181 0,rH 272,.none,.none,.none,rH 273,jH 546 0,jH 175 0,sH "/claim/cut.py" 547]) ::
(nat_lit 275,fH "_law_heaps" "_law_heaps" (pw 33) "law_fairbench_k52_whole_box" 458 274) ::
(nat_lit 276,tH #[]) ::
(nat_lit 279,cH #[sH "_law_like" 549,sH "_law_like" 550,sH "/claim/cut.py" 551,jH 187 0,jH 2 0,jH 0 0,jH 0 0,jH 3 0,rH 276,.bool true,jH 181 0,rH 277,.none,.none,.none,rH 278,jH 552 0,jH 187 0,sH "/claim/cut.py" 553]) ::
(nat_lit 280,fH "_law_like" "_law_like" (pw 34) "law_fairbench_k52_whole_box" 458 279) ::
(nat_lit 286,tH #[]) ::
(nat_lit 288,tH #[sH "_law_box" 564,sH "_law_kept" 565,sH "_law_first" 566,sH "_law_due" 567,sH "_law_found" 568,sH "_law_many" 569]) ::
(nat_lit 289,tH #[]) ::
(nat_lit 291,cH #[sH "_law_right" 561,sH "_law_right" 562,sH "/claim/cut.py" 563,jH 193 0,jH 3 0,jH 0 0,jH 0 0,jH 3 0,rH 286,.bool true,jH 181 0,rH 287,.none,rH 288,rH 289,rH 290,jH 570 0,jH 193 0,sH "/claim/cut.py" 571]) ::
(nat_lit 292,fH "_law_right" "_law_right" (pw 36) "law_fairbench_k52_whole_box" 458 291) ::
(nat_lit 293,tH #[]) ::
(nat_lit 296,cH #[sH "_law_moved" 573,sH "_law_moved" 574,sH "/claim/cut.py" 575,jH 204 0,jH 5 0,jH 0 0,jH 0 0,jH 3 0,rH 293,.bool true,jH 181 0,rH 294,.none,.none,.none,rH 295,jH 576 0,jH 204 0,sH "/claim/cut.py" 577]) ::
(nat_lit 297,fH "_law_moved" "_law_moved" (pw 37) "law_fairbench_k52_whole_box" 458 296) ::
(nat_lit 298,tH #[]) ::
(nat_lit 300,tH #[sH "_law_script" 582,sH "_law_roll" 583,sH "_law_rolls" 584,sH "_law_handed" 585,sH "_law_boxes" 586,sH "_law_kept" 587,sH "_law_cell" 588,sH "_law_xs" 589,sH "_law_which" 590]) ::
(nat_lit 301,tH #[]) ::
(nat_lit 303,cH #[sH "law" 579,sH "law" 580,sH "/claim/cut.py" 581,jH 222 0,jH 1 0,jH 0 0,jH 0 0,jH 3 0,rH 298,.bool true,jH 181 0,rH 299,.none,rH 300,rH 301,rH 302,jH 591 0,jH 222 0,sH "/claim/cut.py" 592]) ::
(nat_lit 304,fH "law" "law" (pw 38) "law_fairbench_k52_whole_box" 458 303)::[]
def LR:List Addr:=[2,3,15,17,18,20,21,22,29,30,31,32,35,42,43,44,47,54,55,56,59,66,67,68,71,78,79,80,83,90,91,92,95,98,99,100,102,103,105,106,107,109,110,112,113,114,116,117,119,120,121,124,125,126,128,129,131,132,140,142,143,145,146,147,148,150,151,153,154,155,156,158,159,161,162,163,165,166,168,169,170,173,174,175,177,178,180,181,182,183,184,185,186,189,191,192,194,195,196,199,200,201,203,204,206,207,208,210,211,213,214,215,217,218,220,221,222,224,225,227,228,229,231,232,234,235,236,238,239,241,242,243,245,246,248,249,250,252,253,255,256,257,259,260,262,263,264,266,267,269,270,271,274,275,276,279,280,286,288,289,291,292,293,296,297,298,300,301,303,304]
def qv:Program:={ PySem.Challenge.pw_fairbench_k52_whole_box with main:={ PySem.Challenge.pw_fairbench_k52_whole_box.main with body:=(PySem.Challenge.pw_fairbench_k52_whole_box.main.body.zipIdx.filter fun x=>!([1,8,16,24].contains x.2)).map (·.1) } }
theorem xI:∀P,LR=(KH P).map (·.1):=fun _=>by kernel_rfl
def zE(w:World):Option Shared:=openEnds treeTable PySem.Challenge.rw_fairbench_k52_whole_box.row.prog w 5042
def y1(s:Shared):=seen ((recsOf qv).map (·.name)) (ownsOf qv) [] { s with gens:=#[] }
def y3(s:Shared):Bool:=s.heap.keysOk (looseW qv []) ((recsOf qv).map (·.name)) ((litsOf qv).map (·.1)) ((clssOf qv (looseW qv [])).map (·.name))&&s.heap.accountedOkI (importedModules PySem.Challenge.rw_fairbench_k52_whole_box.row.prog.main.body)&&s.heap.isNs mainGlobals&&s.heap.isNs builtinsNs&&tablesOk qv s.heap&&(xlAt qv [] s&&recOk (RowW.records PySem.Challenge.rw_fairbench_k52_whole_box.row.toRowW) s)&&s.gens.size==0
theorem d0:drecsOf qv=[]:=by kernel_rfl
theorem d2:wclssOf qv []=[]:=by kernel_rfl
theorem S3:∀w,(zE w).map y1=some (expectedOf qv):=by intro w;kernel_rfl
theorem S4:∀w,(zE w).map (fun s=>(s.heap.bltView,tabsOk qv s,plainSeenD qv [] s))=some (bltViewBooted,true,plainGoodD qv []):=by intro w;kernel_rfl
theorem S5:∀w,(zE w).map (fun s=>(y3 s,plainSeenE qv (looseW qv []) s,wideSeen qv s))=some (true,plainGoodE qv (looseW qv []),wideGood qv):=by intro w;kernel_rfl
theorem S6:∀w,(zE w).map (kmHook KH LR xI []).obs=some ((kmHook KH LR xI []).val w):=by intro w;kernel_rfl
theorem S7:LeftO PySem.Challenge.rw_fairbench_k52_whole_box.row.prog qv [] (fun s=>xlAt qv [] s&&recOk (RowW.records PySem.Challenge.rw_fairbench_k52_whole_box.row.toRowW) s) (kmHook KH LR xI []).obs (kmHook KH LR xI []).val 5042:=by
  intro w;have h1:=S3 w;have h2:=S5 w;have h3:=S4 w;have h4:=S6 w;unfold zE at h1 h2 h3 h4;cases h:openEnds treeTable PySem.Challenge.rw_fairbench_k52_whole_box.row.prog w 5042 with
  |none=>rw[h] at h1;cases h1
  |some s =>
   rw[h] at h1 h2 h3 h4;have e1:=jG h1;have e3:=jG h3;have e2:=jG h2;have p:pinSeenD qv (drecsOf qv) s=pinGoodD (drecsOf qv):=by rw[d0];rfl
   have q:plainSeenD qv [] s=plainGoodD qv []:=fS (·.2.2) e3;have r:clsSeenW qv [] s=clsGoodW qv []:=by unfold clsSeenW clsGoodW;rw[d2];rfl
   exact fS some (Prod.ext (Prod.ext e1 (Prod.ext (fS (·.1) e3) (Prod.ext (fS (·.1) e2) (Prod.ext (fS (·.2.1) e3) (Prod.ext p (Prod.ext (fS (·.2.1) e2) (Prod.ext q (Prod.ext (fS (·.2.2) e2) r)))))))) (jG h4))
end HH
namespace L2
open PySem PySem.Spec PyProof.Rows
abbrev Key:=Sum Int Str
def wR:Key→Value→Bool
  |.inl k,v=>Value.isInt k v
  |.inr x,v=>Value.isStrOf x v
def Wo(w:World):Key→Int
  |.inl k=>hashInt k
  |.inr x=>hashStr w x
theorem cZ:∀{k:Key} {v:Value},wR k v=true→(∃i t,k=Sum.inl i∧v=Value.int i t)∨(∃x t,k=Sum.inr x∧v=Value.str x t)
  |.inl i,v,h=>by obtain⟨t,e⟩:=Value.isInt_shape (k:=i) (v:=v) h;exact .inl ⟨i,t,rfl,e⟩
  |.inr x,v,h=>by obtain⟨t,e⟩:=Value.isStrOf_shape (x:=x) (v:=v) h;exact .inr ⟨x,t,rfl,e⟩
theorem FR(i:Int)(t:Tok):wR (.inl i) (.int i t)=true:=by simp[wR,Value.isInt]
theorem FT(x:Str)(t:Tok):wR (.inr x) (.str x t)=true:=by simp[wR,Value.isStrOf]
theorem PN(a b:Int):decide ((Sum.inl a:Key)=Sum.inl b)=(a==b):=by
  by_cases e:a=b
  ·subst e;simp
  ·have h:¬ (Sum.inl a:Key)=Sum.inl b:=fun q=>e (Sum.inl.inj q);rw[gQ h];exact(beq_eq_false_iff_ne.mpr e).symm
theorem PQ(a b:Str):decide ((Sum.inr a:Key)=Sum.inr b)=decide (a=b):=by
  by_cases e:a=b
  ·subst e;simp
  ·have h:¬ (Sum.inr a:Key)=Sum.inr b:=fun q=>e (Sum.inr.inj q);rw[gQ h,gQ e]
theorem PR(a:Int)(b:Str):decide ((Sum.inl a:Key)=Sum.inr b)=false:=gQ (fun q=>nomatch q)
theorem PV(a:Str)(b:Int):decide ((Sum.inr a:Key)=Sum.inl b)=false:=gQ (fun q=>nomatch q)
def cI(prog:Program)(w:World):PySem.KeyKind prog w Key where
  is:=wR
  hash:=Wo w
  inj:=fun v a b ha hb=>by
    rcases cZ ha with⟨i,t,rfl,rfl⟩|⟨x,t,rfl,rfl⟩
    · rcases cZ hb with⟨j,u,rfl,e⟩|⟨y,u,rfl,e⟩
      ·injection e with e1 _;rw[e1]
      ·exact nomatch e
    · rcases cZ hb with⟨j,u,rfl,e⟩|⟨y,u,rfl,e⟩
      ·exact nomatch e
      ·injection e with e1 _;rw[e1]
  byValue:=fun k v h=>by rcases cZ h with⟨i,t,rfl,rfl⟩|⟨x,t,rfl,rfl⟩<;>rfl
  pyHash:=fun hv h=>by
    rcases cZ hv with⟨i,t,rfl,rfl⟩|⟨x,t,rfl,rfl⟩
    ·exact wpAny_pyHash_int h
    ·exact wpAny_pyHash_str h
  eqBool:=fun hu hv h=>by
    rcases cZ hu with⟨i,t,rfl,rfl⟩|⟨x,t,rfl,rfl⟩
    · rcases cZ hv with⟨j,u,rfl,rfl⟩|⟨y,u,rfl,rfl⟩
      ·rw[PN] at h;exact wpAny_eqBool_int h
      ·rw[PR] at h;exact SeqAt.EqAt.int_str i t y u _ _ _ _ h
    · rcases cZ hv with⟨j,u,rfl,rfl⟩|⟨y,u,rfl,rfl⟩
      ·rw[PV] at h;exact SeqAt.EqAt.str_int x t j u _ _ _ _ h
      ·rw[PQ] at h;exact wpAny_eqBool_str h
  «strs»:=fun k x t v h=>by
    rcases cZ h with⟨i,u,rfl,e⟩|⟨y,u,rfl,e⟩
    ·exact nomatch e
    ·injection e with e1 _;subst e1;cases v<;>rfl
theorem zz(prog:Program)(w:World)(i:Int)(t:Tok):(cI prog w).is (.inl i) (.int i t)=true:=FR i t
theorem zA(prog:Program)(w:World)(x:Str)(t:Tok):(cI prog w).is (.inr x) (.str x t)=true:=FT x t
inductive V where
  |non|bl (b:Bool)|int (i:Int)|str (x:Str)|Hs (b:Array UInt8)|PX (b:UInt64)|ref (a:Addr)|ty (n:String)
  deriving DecidableEq
def RelV:V→Value→Prop
  |.non,u=>u=Value.none
  |.bl b,u=>u=Value.bool b
  |.int i,u=>∃t,u=Value.int i t
  |.str x,u=>∃t,u=Value.str x t
  |.Hs b,u=>∃t,u=Value.bytes b t
  |.PX b,u=>∃t,u=Value.float b t
  |.ref a,u=>u=Value.ref a
  |.ty n,u=>u=Value.type n
abbrev Vals:List V→cv→Prop:=Paired RelV
theorem Vals.length{xs:List V}(r:Vals xs us):xs.length=us.length:=pJ r
theorem Vals.get:∀{xs:List V} {us:cv} {i:Nat} {x:V},Vals xs us→xs[i]?=some x→∃u,us[i]?=some u∧RelV x u
  |_,_,_,_,.nil,e=>by simp at e
  |_,_,0,_,.cons r _,e=>by simp at e;subst e;exact⟨_,rfl,r⟩
  |_,_,i+1,x,.cons _ t,e=>by obtain⟨u,h1,h2⟩:=Vals.get (i:=i) (x:=x) t (by simpa using e);exact⟨u,by simpa using h1,h2⟩
theorem Vals.set{x:V}(r:RelV x u):∀{xs:List V} {us:cv} (i:Nat),Vals xs us→Vals (xs.set i x) (us.set i u)
  |_,_,_,.nil=>.nil
  |_,_,0,.cons _ t=>.cons r t
  |_,_,i+1,.cons q t=>.cons q (Vals.set r i t)
theorem Vals.append:∀{xs ys:List V} {us ws:cv},Vals xs us→Vals ys ws→Vals (xs++ys) (us++ws)
  |_,_,_,_,.nil,s=>s
  |_,_,_,_,.cons r t,s=>.cons r (Vals.append t s)
theorem Vals.take:∀{xs:List V} {us:cv} (n:Nat),Vals xs us→Vals (xs.take n) (us.take n)
  |_,_,0,_=>.nil
  |_,_,_+1,.nil=>.nil
  |_,_,n+1,.cons r t=>.cons r (Vals.take n t)
theorem Vals.drop:∀{xs:List V} {us:cv} (n:Nat),Vals xs us→Vals (xs.drop n) (us.drop n)
  |_,_,0,r=>r
  |_,_,_+1,.nil=>.nil
  |_,_,n+1,.cons _ t=>Vals.drop n t
def lQ:Option V→fu→Prop
  |some v,some u=>RelV v u
  |none,none=>True
  |_,_=>False
def KV{κ:Type}:List (κ×V)→List (κ×Value)→Prop:=Paired fun(p:κ×V) (q:κ×Value)=>p.1=q.1∧RelV p.2 q.2
def kV:Key→V
  |.inl i=>.int i
  |.inr x=>.str x
inductive HO where
  /-- a list -/
  |lst (xs:List V)
  /-- a tuple (never changes) -/
  |tup (xs:List V)
  /-- a dict whose keys are ints and texts;one whose keys are tuples of ints and texts (the empty one is both) -/
  |dK (ao:List (Key×V))|dT (ao:List (List Key×V))
  /-- a set of ints: its members,its size -/
  |set (S:Int→Bool) (n:Nat)
  /-- an instance of the class at C,its dict at dx,its attributes -/
  |ins (C dx:Addr) (fs:List (Str×V))
  /-- the dict of the instance at x -/
  |own (x:Addr)
  /-- the dict of an exception -/
  |xd (fs:List (Str×V))
  /-- a bound method,f of x -/
  |met (f x:Addr)
  /-- a range object lo,lo+1,.. below hi -/
  |Wq (lo hi:Int)
  /-- a thing that is known to the object (the script;a dict while a loop walks it): read,never written while it is so -/
  |gL (o:Obj) (u:HO)
  /-- a code object's table -/
  |LS (ps:Array Value)
  /-- a code record,its name -/
  |Sh (q:Str)
  /-- any other thing,by what is true of its one object (a def of ZF own: abg a S n:=HO.ext fun h=>..) -/
  |ext (φ:Heap→Prop)
abbrev Hp:=Addr→Option HO
def upd(H:Hp)(a:Addr)(o:HO):Hp:=fun b=>if b=a then some o else H b
theorem ax{H:Hp}{o:HO}:upd H a o a=some o:=by unfold upd;rw[ay rfl]
theorem ai{H:Hp}{o:HO}(h:b≠a):upd H a o b=H b:=by unfold upd;rw[az h]
theorem mr{H:Hp}{o u:HO}(h:H a=some o)(h':H b=some u)(d:o≠u):a≠b:=by intro e;subst e;rw[h] at h';exact d (jG h')
theorem aP{H:Hp}{o:HO}(h:H a=some o)(h':H b=none):a≠b:=by intro e;subst e;rw[h] at h';cases h'
section
variable (P:Program) (w:World)
def bR(H:Hp)(h:Heap)(a:Addr):HO→Prop
  |.lst xs=>xs.length≤sizeLine∧∃(its:cv) (n:Nat),Vals xs its∧h.get? a=some { cls:=.type "list",data:=.seq its.toArray n }
  |.tup xs=>xs.length≤sizeLine∧∃its:cv,Vals xs its∧IsTup h a its.toArray
  |.dK ao=>ao.length≤sizeLine∧(a==sysModules)=false∧∃vs,KV ao vs∧h.DictOf (cI P w) a vs
  |.dT ao=>ao.length≤sizeLine∧(a==sysModules)=false∧∃xs:List (List Key×Addr×Value),
      Paired (fun(p:List Key×V) (q:List Key×Addr×Value)=>p.1=q.1∧H q.2.1=some (.tup (p.1.map kV))∧RelV p.2 q.2.2) ao xs ∧
      ∃o es ep,h.get? a=some o∧o.ExactDict∧o.data=.dict es ep∧es.toList=xs.map (entryOfKey (tupleKind (cI P w)))∧(xs.map (·.1)).Nodup
  |.set S n=>h.SetOf (intKind P w) a S n
  |.ins C dx fs=>H dx=some (.own a)∧fs.length≤1000∧dx≠a∧h.get? a=some (instObj C dx) ∧
      ∃mA,h.Ns1 dx mA∧(∀f,lQ (fs.lookup f) (mA f))∧PySem.Within mA (fs.map (·.1))
  |.own _=>∃o,h.get? a=some o
  |.xd fs=>∃mA,h.Ns1 a mA∧∀f,lQ (fs.lookup f) (mA f)
  |.Wq lo hi=>∃t u v,h.get? a=some { cls:=.type "range",data:=.fields #[.int lo t,.int hi u,.int 1 v] }
  |.gL o u=>h.get? a=some o∧bR H h a u
  |.LS ps=>∃(q:Str) (qs:Array Value),ps=#[.str q 0]∧h.get? a=some { cls:=.none,data:=.fields qs }∧TriplesOk qs.toList∧∀pos v,codeAmong pos qs.toList=some v→∃c,v=.ref c∧H c=some (.Sh q)
  |.Sh q=>h.CodeRec (.ref a) q
  |.met f x=>h.get? a=some (methodObj (.ref f) (.ref x))
  |.ext φ=>φ h∧(∃o,h.get? a=some o)∧∀h1 h2:Heap,φ h1→(∀o,h1.get? a=some o→h2.get? a=some o)→φ h2
def oA(H:Hp)(h:Heap):Prop:=∀a o,H a=some o→bR P w H h a o
end
section
variable {P:Program} {w:World} {H H':Hp} {h h':Heap} {a:Addr} {o:HO}
theorem bR.lt(x:bR P w H h a o):a<h.objs.size:=by
  cases o with
  |lst xs=>obtain⟨_,_,_,_,e⟩:=x;exact bL e
  |tup xs=>obtain⟨_,_,_,p⟩:=x;exact p.lt
  |dK ao=>obtain⟨_,_,_,_,o,_,_,e,_⟩:=x;exact bL e
  |dT ao=>obtain⟨_,_,_,_,o,_,_,e,_⟩:=x;exact bL e
  |set S n=>obtain⟨o,_,_,_,e,_⟩:=x;exact bL e
  |ins C dx fs=>obtain⟨_,_,_,e,_⟩:=x;exact bL e
  |own y=>obtain⟨_,e⟩:=x;exact bL e
  |xd fs=>obtain⟨_,⟨_,_,_,e,_⟩,_⟩:=x;exact bL e
  |Wq lo hi=>obtain⟨_,_,_,e⟩:=x;exact bL e
  |gL ob u=>obtain⟨e,_⟩:=x;exact bL e
  |LS ps=>obtain⟨_,_,_,e,_⟩:=x;exact bL e
  |Sh q=>obtain⟨_,_,_,_,e,g,_⟩:=x;cases e;exact bL g
  |met f y=>exact bL (show h.get? a=some _ from x)
  |ext φ=>obtain⟨_,⟨_,e⟩,_⟩:=x;exact bL e
theorem Paired.HG{α β:Type}{F G:α→β→Prop}:∀{l₁:List α} {l₂:List β},Paired F l₁ l₂→(∀a b,F a b→G a b)→Paired G l₁ l₂
  |_,_,.nil,_=>.nil
  |_,_,.cons r t,f=>.cons (f _ _ r) (Paired.HG t f)
theorem bR.gR(x:bR P w H h a o)(k:∀b u,(b=a∨H b=some (.own a))→h.get? b=some u→h'.get? b=some u)(ho:∀b,H b=some (.own a)→H' b=some (.own a))(ht:∀b xs,H b=some (.tup xs)→H' b=some (.tup xs))(dR:∀b q,H b=some (.Sh q)→H' b=some (.Sh q):=by
      intro b q hb
      first
        |exact hb
        |(rw[ai (aP hb (by assumption))];exact hb)
        |(rw[ai (mr hb (by assumption) (fun z=>nomatch z))];exact hb)
        |(rw[ai (by rintro rfl;simp_all [Si])];exact hb)):bR P w H' h' a o:=by
  induction o with
  |lst xs=>obtain⟨z,its,n,r,e⟩:=x;exact⟨z,its,n,r,k _ _ (.inl rfl) e⟩
  |tup xs=>obtain⟨z,its,r,ob,e,c⟩:=x;exact⟨z,its,r,ob,k _ _ (.inl rfl) e,c⟩
  |dK ao=>obtain⟨z,y,vs,r,ob,es,ep,e,c⟩:=x;exact⟨z,y,vs,r,ob,es,ep,k _ _ (.inl rfl) e,c⟩
  |dT ao=>obtain⟨z,y,xs,r,ob,es,ep,e,c⟩:=x;exact⟨z,y,xs,Paired.HG r fun p q z=>⟨z.1,ht _ _ z.2.1,z.2.2⟩,ob,es,ep,k _ _ (.inl rfl) e,c⟩
  |set S n=>obtain⟨ob,es,ep,t,e,c⟩:=x;exact⟨ob,es,ep,t,k _ _ (.inl rfl) e,c⟩
  |ins C dx fs=>obtain⟨d,z,ne,e,mA,⟨od,es,ep,e2,c⟩,r⟩:=x;exact⟨ho _ d,z,ne,k _ _ (.inl rfl) e,mA,⟨od,es,ep,k _ _ (.inr d) e2,c⟩,r⟩
  |own y=>obtain⟨ob,e⟩:=x;exact⟨ob,k _ _ (.inl rfl) e⟩
  |xd fs=>obtain⟨mA,⟨od,es,ep,e,c⟩,r⟩:=x;exact⟨mA,⟨od,es,ep,k _ _ (.inl rfl) e,c⟩,r⟩
  |Wq lo hi=>obtain⟨t,u,v,e⟩:=x;exact⟨t,u,v,k _ _ (.inl rfl) e⟩
  |gL ob u ih=>obtain⟨e,q⟩:=x;exact⟨k _ _ (.inl rfl) e,ih q⟩
  |LS ps=>obtain⟨q,qs,e0,e,ht,hc⟩:=x;refine⟨q,qs,e0,k a _ (.inl rfl) e,ht,fun pos v hv=>?_⟩;obtain⟨c,e1,hH⟩:=hc pos v hv;exact⟨c,e1,dR _ _ hH⟩
  |Sh q=>obtain⟨c,o2,vs2,t2,e2,g2,r2⟩:=x;cases e2;exact⟨_,o2,vs2,t2,rfl,k _ _ (.inl rfl) g2,r2⟩
  |met f y=>have e:h.get? a=some (methodObj (.ref f) (.ref y)):=x;show h'.get? a=some (methodObj (.ref f) (.ref y));exact k a _ (.inl rfl) e
  |ext φ=>obtain⟨p,⟨o,e⟩,st⟩:=x;exact⟨st _ _ p fun o q=>k _ _ (.inl rfl) q,⟨o,k _ _ (.inl rfl) e⟩,st⟩
theorem oA.lt(x:oA P w H h)(e:H a=some o):a<h.objs.size:=(x a o e).lt
theorem oA.fresh(x:oA P w H h)(e:h.objs.size≤a):H a=none:=by
  cases q:H a with
  |none=>rfl
  |some u=>exact absurd (jX (x.lt q) e) (rn _)
theorem oA.kept(x:oA P w H h)(k:∀b u,h.get? b=some u→h'.get? b=some u):oA P w H h':=fun a o e =>
  (x a o e).gR (fun b u _ q=>k b u q) (fun _ q=>q) fun _ _ q=>q
theorem oA.laid(x:oA P w H h)(k:∀b u,h.get? b=some u→h'.get? b=some u)(hp:h.objs.size≤a)(new:bR P w (upd H a o) h' a o):oA P w (upd H a o) h':=fun b u e=>by
  have hn:=x.fresh hp;by_cases hb:b=a
  ·subst hb;rw[ax] at e;cases e;exact new
  ·rw[ai hb] at e;exact(x b u e).gR (fun c v _ q=>k c v q) (fun c q=>by rw[ai (aP q hn)];exact q) fun c xs q=>by rw[ai (aP q hn)];exact q
end
def Rd(H:Hp)(a:Addr)(u:HO):Prop:=H a=some u∨∃o,H a=some (.gL o u)
theorem Rd.ok{H:Hp}{u:HO}(r:Rd H a u)(x:oA P w H h):bR P w H h a u:=by
  rcases r with r|⟨o,r⟩
  ·exact x a u r
  ·obtain⟨_,q⟩:=x a _ r;exact q
def Si:Option HO→Prop
  |some (.lst _)=>True
  |some (.dK _)=>True
  |some (.dT _)=>True
  |some (.set _ _)=>True
  |some (.ins _ _ _)=>True
  |some (.ext _)=>True
  |_=>False
section
variable {P:Program} {w:World} {H:Hp} {h h':Heap} {x e:Addr} {o':HO}
theorem oA.write(ok:oA P w H h)(mu:Si (H x))(he:e=x∨H e=some (.own x))(k:∀b u,b≠e→h.get? b=some u→h'.get? b=some u)(Sj:∃u,h'.get? e=some u)(new:bR P w (upd H x o') h' x o'):oA P w (upd H x o') h':=fun b u q=>by
  have S8:∀c y,H c=some (.own y)→c≠x:=fun c y r z=>by subst z;rw[r] at mu;exact mu
  have Wr:∀c xs,H c=some (.tup xs)→c≠x:=fun c xs r z=>by subst z;rw[r] at mu;exact mu
  by_cases hb:b=x
  ·subst hb;rw[ax] at q;cases q;exact new
  · rw[ai hb] at q;by_cases PY:b=e
    · have q':H b=some (.own x):=by
        rcases he with z|z
        ·exact absurd (PY.trans z) hb
        ·rw[PY];exact z
      rw[q] at q';cases q';obtain⟨v,hv⟩:=Sj;exact⟨v,by rw[PY];exact hv⟩
    · refine(ok b u q).gR (fun c v hc r=>k c v ?_ r) (fun c r=>by rw[ai (S8 c b r)];exact r) fun c xs r=>by rw[ai (Wr c xs r)];exact r
      rcases hc with rfl|hc
      ·exact PY
      · rintro rfl;rcases he with z|z
        ·exact S8 c b hc z
        ·rw[hc] at z;cases z;exact hb rfl
end
structure Un (fs ex:List Addr) (H H':Hp) (h h':Heap):Prop where
  keep:∀b o,h.get? b=some o→H b=none→b∉fs→b∉ex→h'.get? b=some o
  slot:∀b o,h.get? b=some o→H b=none→b∈fs→b∉ex→∃sl,h'.get? b=some { o with slots:=sl }
  free:∀b o,h.get? b=some o→H b=none→b∉ex→H' b=none
  there:∀b o,h.get? b=some o→b∉ex→∃o',h'.get? b=some o'
  oB:∀b xs,H b=some (.tup xs)→H' b=some (.tup xs)
  oC:∀b o u,H b=some (.gL o u)→H' b=some (.gL o u)
  rA:∀b ps,H b=some (.LS ps)→∃more,H' b=some (.LS (ps++more))
section
variable {fs fs' ex ex':List Addr} {H H1 H2:Hp} {h h1 h2 h':Heap} {a x e:Addr} {o:HO}
theorem Un.any(u:Un fs ex H H1 h h1){ob:Obj}(q:h.get? b=some ob)(n:H b=none)(hx:b∉ex):∃sl,h1.get? b=some { ob with slots:=sl }:=by
  by_cases hb:b∈fs
  ·exact u.slot b ob q n hb hx
  ·exact⟨ob.slots,u.keep b ob q n hb hx⟩
theorem Un.kept(k:∀b u,h.get? b=some u→h'.get? b=some u):Un fs ex H H h h' :=
  ⟨fun b ob q _ _ _=>k b ob q,fun b ob q _ _ _=>⟨ob.slots,k b ob q⟩,fun _ _ _ n _=>n,fun b ob q _=>⟨ob,k b ob q⟩,fun _ _ q=>q,fun _ _ _ q=>q,fun _ ps q=>⟨#[],by rw[q];simp⟩⟩
theorem Un.refl:Un fs ex H H h h:=Un.kept fun _ _ q=>q
theorem Un.laid(k:∀b u,h.get? b=some u→h'.get? b=some u)(hp:h.objs.size≤a)(hn:H a=none):Un fs ex H (upd H a o) h h' where
  keep:=fun b u q _ _ _=>k b u q
  slot:=fun b u q _ _ _=>⟨u.slots,k b u q⟩
  free:=fun b u q n _=>by rw[ai (dw (jX (bL q) hp))];exact n
  there:=fun b u q _=>⟨u,k b u q⟩
  oB:=fun b xs q=>by rw[ai (aP q hn)];exact q
  oC:=fun b u xs q=>by rw[ai (aP q hn)];exact q
  rA:=fun b ps q=>⟨#[],by rw[ai (aP q hn),q];simp⟩
theorem Un.write(mu:Si (H x))(he:e=x∨H e=some (.own x))(k:∀b u,b≠e→h.get? b=some u→h'.get? b=some u)(Sj:∃u,h'.get? e=some u):Un fs ex H (upd H x o) h h':=by
  have hx:∀b,H b=none→b≠x:=fun b n z=>by subst z;rw[n] at mu;exact mu
  have hb:∀b,H b=none→b≠e:=fun b n z=>by
    subst z;rcases he with r|r
    ·exact hx b n r
    ·rw[n] at r;cases r
  have hm:∀b u,H b=some u→¬ Si (some u)→b≠x:=fun b u q nm z=>by subst z;rw[q] at mu;exact nm mu
  refine⟨fun b u q n _ _=>k b u (hb b n) q,fun b u q n _ _=>⟨u.slots,k b u (hb b n) q⟩,fun b u q n _=>by rw[ai (hx b n)];exact n,fun b u q _=>?_,
    fun b xs q=>by rw[ai (hm b _ q fun z=>z)];exact q,fun b u xs q=>by rw[ai (hm b _ q fun z=>z)];exact q,fun b ps q=>⟨#[],by rw[ai (hm b _ q fun z=>z),q];simp⟩⟩
  by_cases PY:b=e
  ·subst PY;exact Sj
  ·exact⟨u,k b u PY q⟩
end
def Vy(h:Heap)(H:Hp):List Addr:=(List.range h.objs.size).filter fun a=>(H a).isSome
def xJ(h:Heap)(H:Hp):Heap:=PySem.W.hideAll h (Vy h H)
theorem FU(h:Heap)(H:Hp):(xJ h H).objs.size=h.objs.size:=PySem.W.hideAll_size _ _
theorem HJ{H:Hp}{o:Obj}(e:h.get? b=some o)(n:H b=none):(xJ h H).get? b=some o :=
  PySem.W.hideAll_get _ e fun hm=>by have q:(H b).isSome=true:=(List.mem_filter.mp hm).2;rw[n] at q;simp at q
theorem L3{H:Hp}{o:Obj}(e:(xJ h H).get? b=some o):h.get? b=some o∧H b=none:=by
  have e':h.get? b=some o:=PySem.W.of_hideAll (Vy h H) e;refine⟨e',?_⟩;cases q:H b with
  |none=>rfl
  |some x=>have hm:b∈Vy h H:=List.mem_filter.mpr ⟨mj.mpr (bL e'),by simp[q]⟩;have z:(xJ h H).get? b=none:=PySem.W.hideAll_none (Vy h H) hm;rw[z] at e;cases e
structure Mod (K:PySem.W.Frag) (mg:Str→fu) (base:Heap):Prop where
  S9:K.In base
  glob:base.Ns mainGlobals mg
  blt:∃mb,base.Ns builtinsNs mb∧∀x:Str,x≠"__name__"→mb x=bootBuiltins x
  nolimit:base.NoLimit
structure Cx where
  prog:Program
  w:World
  K:PySem.W.Frag
  mg:Str→fu
  base:Heap
  A:Around
  N:dC
  s₀:Shared
  H₀:Hp
  env:Env
  outer:List Env
  stack:List Env
  ex:List Addr
  fn:Str→Bool
  calm:Bool
  pn:gu
  xe:fR
def FV(l:List Env):List Addr:=l.filterMap (·.frame)
abbrev Cx.fs(X:Cx):List Addr:=FV X.outer
def pL(sc:Scope)(x:Str):Prop:=sc.names.lookup x=some .local∨sc.names.lookup x=some .cell∨sc.names.lookup x=some .free
def Loc(sc:Scope)(x:Str):Prop:=sc.names.lookup x=some .local∨sc.names.lookup x=some .cell
def Look(env:Env)(h:Heap)(m:Str→fu)(x:Str)(u:Value):Prop :=
  (env.kindOf x=some .local∧m x=some u)∨((env.kindOf x=some .cell∨env.kindOf x=some .free)∧∃c,env.cells.lookup x=some c∧h.IsCell c (some u))
structure Cx.Ok (X:Cx):Prop where
  mod:Mod X.K X.mg X.base
  kind:X.env.scope.kind=.function
  glob:X.env.globals=mainGlobals
  blt:X.env.builtins=builtinsNs
  above:X.s₀.heap.objs.size≤X.env.locals
  inj:∀x y c,X.env.cells.lookup x=some c→X.env.cells.lookup y=some c→x=y
  has:∀x,(X.env.kindOf x=some .cell∨X.env.kindOf x=some .free)→∃c,X.env.cells.lookup x=some c
  Sl:∀x c,X.fn x=true→X.env.cells.lookup x=some c→X.s₀.heap.objs.size≤c
  hd:X.calm=true→X.A.handled=none
  frames:X.A.frames=some X.stack
  Ta:X.stack=X.outer∨(X.stack=X.env::X.outer∧X.env.frame=some X.env.locals)
  Ws:∀b∈X.ex,b≠X.env.locals∧∀x c,X.env.cells.lookup x=some c→c≠b
  bs:∀b o,X.base.get? b=some o→X.s₀.heap.get? b=some o∧X.H₀ b=none
  L4:X.base.objs.size≤X.s₀.heap.objs.size
  FW:∀b o,X.base.get? b=some o→b∉X.ex
  HK:∀b∈X.ex,b∉X.fs
  rC:X.s₀.heap.FunFrames X.base X.outer
  OW:∀b∈X.fs,X.H₀ b=none
structure Inv (X:Cx) (pins:gu) (σ:List (Option V)) (H:Hp) (s:Shared):Prop where
  ok:X.Ok
  os:s.os=X.s₀.os
  bare:AllBare s.gens
  base:Un X.fs X.ex X.H₀ H X.s₀.heap s.heap
  loc:∃m,s.heap.Ns X.env.locals m∧∀(i:Nat) (x:Str) (v:V),X.N[i]?=some x→σ[i]?=some (some v)→pL X.env.scope x→∃u,RelV v u∧Look X.env s.heap m x u
  cell:∀x c,X.env.cells.lookup x=some c→∃v,s.heap.IsCell c v
  free:H X.env.locals=none
  fI:∀x c,X.env.cells.lookup x=some c→H c=none
  pin:∀p∈X.pn++pins,s.heap.get? p.1=some p.2∧H p.1=none∧p.1≠X.env.locals∧p.1∉X.fs∧∀v,p.2.data≠.cell v
  bU:oA X.prog X.w H s.heap
  len:σ.length=X.N.length
section
variable {X:Cx} {pins:gu} {σ:List (Option V)} {H H':Hp} {s:Shared} {h':Heap}
theorem Cx.Ok.Wt(ok:X.Ok){o:Obj}(e:X.base.get? b=some o):b∉X.fs:=fun hb=>by have:=(ok.rC.mem hb).1;rw[e] at this;cases this
theorem Inv.bs(I:Inv X pins σ H s):∀b o,X.base.get? b=some o→s.heap.get? b=some o∧H b=none:=fun b o e =>
  ⟨I.base.keep b o (I.ok.bs b o e).1 (I.ok.bs b o e).2 (I.ok.Wt e) (I.ok.FW b o e),I.base.free b o (I.ok.bs b o e).1 (I.ok.bs b o e).2 (I.ok.FW b o e)⟩
theorem Inv.bk(I:Inv X pins σ H s):∀b o,X.base.get? b=some o→s.heap.get? b=some o:=fun b o e=>(I.bs b o e).1
theorem Inv.mod(I:Inv X pins σ H s):Mod X.K X.mg X.base:=I.ok.mod
theorem Inv.rg(I:Inv X pins σ H s):X.K.In s.heap:=I.ok.mod.S9.keeps I.bk
theorem Inv.lt(I:Inv X pins σ H s):X.env.locals<s.heap.objs.size:=let ⟨_,hn,_⟩:=I.loc;hn.lt
theorem Inv.sz(I:Inv X pins σ H s):X.s₀.heap.objs.size≤s.heap.objs.size:=gy I.ok.above (ml I.lt)
theorem Inv.PZ(I:Inv X pins σ H s)(h:s.heap.objs.size≤a):a∉X.fs:=fun hb=>by obtain⟨_,o,ho,_⟩:=I.ok.rC.mem hb;exact absurd (jX (bL ho) (gy I.sz h)) (rn _)
theorem Inv.P0(I:Inv X pins σ H s):∀x c,X.env.cells.lookup x=some c→c≠X.env.locals:=fun x c e z=>by obtain⟨v,o,ho,hd⟩:=I.cell x c e;obtain⟨m,⟨o',es,ep,BG,Ht,_⟩,_⟩:=I.loc;rw[z,BG] at ho;cases ho;rw[Ht] at hd;cases hd
theorem Inv.rC(I:Inv X pins σ H s):s.heap.FunFrames X.base X.outer:=by
  have all:∀(l:List Env),(∀b∈FV l,b∈X.fs)→X.s₀.heap.FunFrames X.base l→s.heap.FunFrames X.base l:=by
    intro l;induction l with
    |nil=>intro _ _;trivial
    |cons env r ih=>intro hs hl;obtain⟨hk,⟨L,o,hf,hn,ho,hd⟩,hr⟩:=hl;have hL:L∈X.fs:=hs L (by unfold FV;rw[List.filterMap_cons,hf];exact eR);obtain⟨sl,e⟩:=I.base.slot L o ho (I.ok.OW L hL) hL fun z=>I.ok.HK L z hL;exact⟨hk,⟨L,_,hf,hn,e,hd⟩,ih (fun b hb=>hs b (by unfold FV;rw[List.filterMap_cons,hf];exact et _ hb)) hr⟩
  exact all X.outer (fun _ hb=>hb) I.ok.rC
theorem Inv.stack(I:Inv X pins σ H s):s.heap.FunFrames X.base X.stack:=by
  rcases I.ok.Ta with e|⟨e,hf⟩
  ·rw[e];exact I.rC
  ·rw[e];obtain⟨m,hn,_⟩:=I.loc;refine .cons (by rw[I.ok.kind];decide) hf hn ?_ I.rC;exact Heap.get?_none_of_le (gy I.ok.L4 I.ok.above)
theorem Inv.rD(I:Inv X pins σ H s):∀b∈FV X.stack,b∈X.env.locals::X.fs:=fun b hb=>by
  rcases I.ok.Ta with e|⟨e,hf⟩
  ·rw[e] at hb;exact et _ hb
  ·rw[e] at hb;unfold FV at hb;rw[List.filterMap_cons,hf] at hb;exact hb
theorem Inv.D3(I:Inv X pins σ H s):∀b∈FV X.stack,H b=none:=fun b hb=>by
  rcases dm.mp (I.rD b hb) with e|hb
  ·rw[e];exact I.free
  ·obtain⟨_,o,ho,_⟩:=I.ok.rC.mem hb;exact I.base.free b o ho (I.ok.OW b hb) fun z=>I.ok.HK b z hb
theorem Inv.step{g':Array GenState}{d':Drawn}{ch:List Addr}(I:Inv X pins σ H s)(LV:∀b∈ch,(b∈X.ex∨X.s₀.heap.objs.size≤b)∧b≠X.env.locals∧(∀x c,X.env.cells.lookup x=some c→c≠b)∧∀p∈X.pn++pins,p.1≠b)(keep:∀b o,b≠X.env.locals→b∉X.fs→b∉ch→s.heap.get? b=some o→H b=none→h'.get? b=some o)(slot:∀b o,b≠X.env.locals→b∈X.fs→b∉ch→s.heap.get? b=some o→H b=none→∃sl,h'.get? b=some { o with slots:=sl })(free:∀b o,b∉ch→s.heap.get? b=some o→H b=none→H' b=none)(there:∀b o,b∉ch→s.heap.get? b=some o→∃o',h'.get? b=some o')(oB:∀b xs,H b=some (.tup xs)→H' b=some (.tup xs))(oC:∀b o u,H b=some (.gL o u)→H' b=some (.gL o u))(rA:∀b ps,H b=some (.LS ps)→∃more,H' b=some (.LS (ps++more)))(ns:∀m,s.heap.Ns X.env.locals m→h'.Ns X.env.locals m)(bU:oA X.prog X.w H' h')(hg:AllBare g'):Inv X pins σ H' { s with heap:=h',gens:=g',drawn:=d',toks:=t' }:=by
  have ZG:∀b o,X.s₀.heap.get? b=some o→b≠X.env.locals:=fun b o e=>dw (jX (bL e) I.ok.above);have Vz:∀b o,X.s₀.heap.get? b=some o→b∉X.ex→b∉ch:=fun b o e hx hb=>by
    rcases(LV b hb).1 with z|z
    ·exact hx z
    ·exact absurd (jX (bL e) z) (rn _)
  have cellK:∀x c,X.env.cells.lookup x=some c→∀v,s.heap.IsCell c v→h'.IsCell c v:=fun x c e v ⟨o,ho,hd⟩=>by
    have Tb:c∉ch:=fun z=>(LV c z).2.2.1 x c e rfl;by_cases hc:c∈X.fs
    ·obtain⟨sl,q⟩:=slot c o (I.P0 x c e) hc Tb ho (I.fI x c e);exact⟨_,q,hd⟩
    ·exact⟨o,keep c o (I.P0 x c e) hc Tb ho (I.fI x c e),hd⟩
  refine⟨I.ok,I.os,hg,⟨fun b o e n hb hx=>?_,fun b o e n hb hx=>?_,fun b o e n hx=>?_,fun b o e hx=>?_,fun b xs e=>oB b xs (I.base.oB b xs e),fun b o xs e=>oC b o xs (I.base.oC b o xs e),fun b ps e=>?_⟩,?_,fun x c e=>?_,?_,fun x c e=>?_,fun p hp=>?_,bU,I.len⟩
  ·exact keep b o (ZG b o e) hb (Vz b o e hx) (I.base.keep b o e n hb hx) (I.base.free b o e n hx)
  ·obtain⟨sl,e1⟩:=I.base.slot b o e n hb hx;obtain⟨wd,e2⟩:=slot b _ (ZG b o e) hb (Vz b o e hx) e1 (I.base.free b o e n hx);exact⟨wd,e2⟩
  ·obtain⟨o',e1⟩:=I.base.there b o e hx;exact free b o' (Vz b o e hx) e1 (I.base.free b o e n hx)
  ·obtain⟨o',e1⟩:=I.base.there b o e hx;exact there b o' (Vz b o e hx) e1
  ·obtain⟨m1,e1⟩:=I.base.rA b ps e;obtain⟨m2,e2⟩:=rA b _ e1;exact⟨m1++m2,by rw[e2,Array.append_assoc]⟩
  · obtain⟨m,hn,hl⟩:=I.loc;refine⟨m,ns m hn,fun i x v e1 e2 e3=>?_⟩;obtain⟨u,r,l⟩:=hl i x v e1 e2 e3;refine⟨u,r,?_⟩;rcases l with l|⟨k,c,e,z⟩
    ·exact .inl l
    ·exact .inr ⟨k,c,e,cellK x c e _ z⟩
  ·obtain⟨v,z⟩:=I.cell x c e;exact⟨v,cellK x c e v z⟩
  ·obtain⟨m,⟨o,_,_,ho,_⟩,_⟩:=I.loc;exact free _ o (fun z=>(LV _ z).2.1 rfl) ho I.free
  ·obtain⟨v,o,ho,hd⟩:=I.cell x c e;exact free c o (fun z=>(LV c z).2.2.1 x c e rfl) ho (I.fI x c e)
  ·obtain⟨e,n,ne,nf,d⟩:=I.pin p hp;have Tb:p.1∉ch:=fun z=>(LV p.1 z).2.2.2 p hp rfl;exact⟨keep p.1 p.2 ne nf Tb e n,free p.1 p.2 Tb e n,ne,nf,d⟩
theorem Inv.un(I:Inv X pins σ H s)(u:Un X.fs [] H H' s.heap h')(bU:oA X.prog X.w H' h'):Inv X pins σ H' { s with heap:=h',toks:=t' }:=by
  obtain⟨m,⟨o,es,ep,ho,r⟩,_⟩:=id I.loc;obtain⟨sl,hL⟩:=u.any ho I.free (by simp);exact I.step (g':=s.gens) (d':=s.drawn) (ch:=[]) (fun _ z=>nomatch z) (fun b o _ hb _ e n=>u.keep b o e n hb (by simp)) (fun b o _ hb _ e n=>u.slot b o e n hb (by simp)) (fun b o _ e n=>u.free b o e n (by simp)) (fun b o _ e=>u.there b o e (by simp)) u.oB u.oC u.rA (fun m' hm=>by
    obtain⟨o',VA,VB,BG,r'⟩:=hm;rw[ho] at BG;cases BG;exact⟨_,VA,VB,hL,r'⟩) bU I.bare
theorem Inv.call{g':Array GenState}{d':Drawn}{ch:List Addr}(I:Inv X pins σ H s)(u:Un (FV X.stack) ch H H' s.heap h')(bU:oA X.prog X.w H' h')(hg:AllBare g')(LV:∀b∈ch,(b∈X.ex∨X.s₀.heap.objs.size≤b)∧b≠X.env.locals∧(∀x c,X.env.cells.lookup x=some c→c≠b)∧∀p∈X.pn++pins,p.1≠b):Inv X pins σ H' { s with heap:=h',gens:=g',drawn:=d',toks:=t' }:=by
  obtain⟨m,⟨o,es,ep,ho,r⟩,_⟩:=id I.loc;obtain⟨sl,hL⟩:=u.any ho I.free fun z=>(LV _ z).2.1 rfl;exact I.step (ch:=ch) LV (fun b o hL hb hc e n=>u.keep b o e n (fun z=>(dm.mp (I.rD b z)).elim hL hb) hc) (fun b o _ _ hc e n=>u.any e n hc) (fun b o hc e n=>u.free b o e n hc) (fun b o hc e=>u.there b o e hc) u.oB u.oC u.rA (fun m' hm=>by
    obtain⟨o',VA,VB,BG,r'⟩:=hm;rw[ho] at BG;cases BG;exact⟨_,VA,VB,hL,r'⟩) bU hg
theorem Inv.turned(I:Inv X pins σ H s)(k:∀b o,b≠it→s.heap.get? b=some o→h'.get? b=some o)(hn:H it=none)(hL:it≠X.env.locals)(h1:it∈X.ex∨X.s₀.heap.objs.size≤it)(h2:∀x c,X.env.cells.lookup x=some c→c≠it)(h3:∀p∈X.pn++pins,p.1≠it):Inv X pins σ H { s with heap:=h',toks:=t' }:=by
  have ZH:∀b u,H b=some u→b≠it:=fun b u e z=>by rw[z,hn] at e;cases e
  refine I.step (g':=s.gens) (d':=s.drawn) (ch:=[it]) (fun b hb=>?_) (fun b o _ _ hc e _=>k b o (fun z=>hc (by simp[z])) e) (fun b o _ _ hc e _=>⟨o.slots,k b o (fun z=>hc (by simp[z])) e⟩) (fun _ _ _ _ n=>n)
    (fun b o hc e=>⟨o,k b o (fun z=>hc (by simp[z])) e⟩) (fun _ _ e=>e) (fun _ _ _ e=>e) (fun b ps e=>⟨#[],by rw[e];simp⟩) (fun m hm=>?_) (fun b u e=>?_) I.bare
  · have e:b=it:=by simpa using hb
    subst e;exact⟨h1,hL,h2,h3⟩
  ·obtain⟨o,es,ep,ho,r⟩:=hm;exact⟨o,es,ep,k _ o (dq hL) ho,r⟩
  · refine(I.bU b u e).gR (fun c v hc q=>k c v ?_ q) (fun _ q=>q) fun _ _ q=>q;rcases hc with z|z
    ·rw[z];exact ZH b u e
    ·exact ZH c _ z
theorem Inv.tok(I:Inv X pins σ H s)(t:Nat):Inv X pins σ H { s with toks:=t }:=I.un (h':=s.heap) (t':=t) Un.refl I.bU
theorem Inv.kept(I:Inv X pins σ H s)(k:∀b u,s.heap.get? b=some u→h'.get? b=some u):Inv X pins σ H { s with heap:=h',toks:=t' }:=I.un (Un.kept k) (I.bU.kept k)
theorem Inv.laid{o:HO}(I:Inv X pins σ H s)(k:∀b u,s.heap.get? b=some u→h'.get? b=some u)(hp:s.heap.objs.size≤a)(new:bR X.prog X.w (upd H a o) h' a o):Inv X pins σ (upd H a o) { s with heap:=h',toks:=t' }:=I.un (Un.laid k hp (I.bU.fresh hp)) (I.bU.laid k hp new)
theorem Inv.write{x e:Addr}{o:HO}(I:Inv X pins σ H s)(mu:Si (H x))(he:e=x∨H e=some (.own x))(k:∀b u,b≠e→s.heap.get? b=some u→h'.get? b=some u)(Sj:∃u,h'.get? e=some u)(new:bR X.prog X.w (upd H x o) h' x o):Inv X pins σ (upd H x o) { s with heap:=h',toks:=t' }:=I.un (Un.write mu he k Sj) (I.bU.write mu he k Sj new)
theorem Inv.xK{OX:gu}(I:Inv X pins σ H s)(h:∀p∈OX,s.heap.get? p.1=some p.2∧H p.1=none∧p.1≠X.env.locals∧p.1∉X.fs∧∀v,p.2.data≠.cell v):Inv X OX σ H s :=
  ⟨I.ok,I.os,I.bare,I.base,I.loc,I.cell,I.free,I.fI,fun p hp=>(md.mp hp).elim (fun z=>I.pin p (List.mem_append_left _ z)) (h p),I.bU,I.len⟩
theorem zB(hN:N.Nodup)(a:N[i]?=some x)(b:N[j]?=some x):i=j:=by obtain⟨h1,e1⟩:=kJ.mp a;obtain⟨h2,e2⟩:=kJ.mp b;exact(List.getElem_inj hN).mp (e1.trans e2.symm)
theorem wU{M:Model}{v:V}{Q:Unit→Shared→Prop}(I:Inv X pins σ H s)(hN:X.N.Nodup)(hi:X.N[i]?=some x)(hx:Loc X.env.scope x)(r:RelV v u)(h:∀s',Inv X pins (σ.set i (some v)) H s'→(∃a,Heap.SameBut a s.heap s'.heap∧(a=X.env.locals∨X.env.cells.lookup x=some a))→Q () s')(hf:X.fn x=true∨X.env.scope.names.lookup x=some .local:=by first|exact .inl rfl|exact .inr rfl|assumption):wpAny M A (storeName X.env x u) Q E s:=by
  obtain⟨m,hn,hl⟩:=id I.loc;have Wu:(X.env.scope.kind==.class||(X.env.scope.kind==.module&&X.env.locals != X.env.globals))=false:=by rw[I.ok.kind];rfl
  have ZI:i<σ.length:=by rw[I.len];exact(kJ.mp hi).1
  have P0:=I.P0;have tracked:∀{a:Addr} {h':Heap},(∃o,s.heap.get? a=some o∧H a=none)→Heap.SameBut a s.heap h'→oA X.prog X.w H h':=fun {a h'} ha hs b ob e=>by
    obtain⟨_,_,OY⟩:=ha;refine(I.bU b ob e).gR (fun c w' hc q=>(hs.2 c ?_).trans q) (fun _ q=>q) fun _ _ q=>q;rintro rfl;rcases hc with rfl|hc
    ·rw[OY] at e;cases e
    ·rw[OY] at hc;cases hc
  rcases hx with hk|hk
  · refine wpAny_storeName_local hk hn (fun h' Wv hs=>?_) Wu;obtain⟨oL,_,_,OZ,_⟩:=id hn;refine h _ ⟨I.ok,I.os,I.bare,⟨fun b o e n hb hx=>?_,fun b o e n hb hx=>?_,I.base.free,fun b o e hx=>?_,I.base.oB,I.base.oC,I.base.rA⟩,⟨_,Wv,fun j y v' e1 e2 e3=>?_⟩,fun y c e=>?_,I.free,I.fI,fun p hp=>?_,tracked ⟨oL,OZ,I.free⟩ hs,by simpa using I.len⟩ ⟨_,hs,.inl rfl⟩
    ·exact(hs.2 b (dw (jX (bL e) I.ok.above))).trans (I.base.keep b o e n hb hx)
    ·obtain⟨sl,e1⟩:=I.base.slot b o e n hb hx;exact⟨sl,(hs.2 b (dw (jX (bL e) I.ok.above))).trans e1⟩
    ·obtain⟨o',e1⟩:=I.base.there b o e hx;exact⟨o',(hs.2 b (dw (jX (bL e) I.ok.above))).trans e1⟩
    · by_cases hj:j=i
      ·subst hj;rw[hi] at e1;cases e1;rw[xD ZI] at e2;cases e2;exact⟨u,r,.inl ⟨hk,by simp⟩⟩
      · rw[v5 (dq hj)] at e2;obtain⟨u',r',q⟩:=hl j y v' e1 e2 e3;refine⟨u',r',?_⟩;rcases q with⟨k,e⟩|⟨k,c,e,z⟩
        ·refine .inl ⟨k,?_⟩;have:y≠x:=fun e=>hj (zB hN e1 (e▸hi));simp[this,e]
        ·exact .inr ⟨k,c,e,z.sameBut hs (P0 y c e)⟩
    ·obtain⟨w',z⟩:=I.cell y c e;exact⟨w',z.sameBut hs (P0 y c e)⟩
    ·obtain⟨e,n,ne,nf,d⟩:=I.pin p hp;exact⟨(hs.2 p.1 ne).trans e,n,ne,nf,d⟩
  · have Ww:X.fn x=true:=by
      rcases hf with z|z
      ·exact z
      ·rw[z] at hk;cases hk
    obtain⟨c,hc⟩:=I.ok.has x (.inl hk);obtain⟨w',z⟩:=I.cell x c hc;refine wpAny_storeName_cell I.ok.kind hk hc z (fun h' Hu hs=>?_);obtain⟨oc,ZJ,Wx⟩:=id z;refine h { s with heap:=h' } ⟨I.ok,I.os,I.bare,⟨fun b o e n hb hx=>?_,fun b o e n hb hx=>?_,I.base.free,fun b o e hx=>?_,I.base.oB,I.base.oC,I.base.rA⟩,⟨m,hn.sameBut hs (dq (P0 x c hc)),fun j y v' e1 e2 e3=>?_⟩,fun y c' e=>?_,I.free,I.fI,fun p hp=>?_,tracked ⟨oc,ZJ,I.fI x c hc⟩ hs,by simpa using I.len⟩ ⟨c,hs,.inr hc⟩
    ·exact(hs.2 b (dw (jX (bL e) (I.ok.Sl x c Ww hc)))).trans (I.base.keep b o e n hb hx)
    ·obtain⟨sl,e1⟩:=I.base.slot b o e n hb hx;exact⟨sl,(hs.2 b (dw (jX (bL e) (I.ok.Sl x c Ww hc)))).trans e1⟩
    ·obtain⟨o',e1⟩:=I.base.there b o e hx;exact⟨o',(hs.2 b (dw (jX (bL e) (I.ok.Sl x c Ww hc)))).trans e1⟩
    · by_cases hj:j=i
      ·subst hj;rw[hi] at e1;cases e1;rw[xD ZI] at e2;cases e2;exact⟨u,r,.inr ⟨.inl hk,c,hc,Hu⟩⟩
      · rw[v5 (dq hj)] at e2;obtain⟨u',r',q⟩:=hl j y v' e1 e2 e3;refine⟨u',r',?_⟩;rcases q with q|⟨k,c',e,z'⟩
        ·exact .inl q
        ·refine .inr ⟨k,c',e,z'.sameBut hs ?_⟩;rintro rfl;exact hj (zB hN e1 (I.ok.inj _ _ _ e hc▸hi))
    · by_cases ZK:c'=c
      ·subst ZK;exact⟨_,Hu⟩
      ·obtain⟨w2,z2⟩:=I.cell y c' e;exact⟨w2,z2.sameBut hs ZK⟩
    ·obtain⟨e,n,ne,nf,d⟩:=I.pin p hp;refine⟨(hs.2 p.1 ?_).trans e,n,ne,nf,d⟩;intro q;rw[q,ZJ] at e;have q':oc=p.2:=jG e;exact d w' (by rw[←q'];exact Wx)
theorem zC{M:Model}{v:V}{Q:Unit→Shared→Prop}(I:Inv X pins σ H s)(hN:X.N.Nodup)(hi:X.N[i]?=some x)(hx:Loc X.env.scope x)(r:RelV v u)(h:∀s',Inv X pins (σ.set i (some v)) H s'→Q () s')(hf:X.fn x=true∨X.env.scope.names.lookup x=some .local:=by first|exact .inl rfl|exact .inr rfl|assumption):wpAny M A (storeName X.env x u) Q E s :=
  wU I hN hi hx r (fun s' I' _=>h s' I') hf
theorem Inv.Tc{s':Shared}{ch:List Addr}(I:Inv X pins σ H s)(ho:s'.os=s.os)(u:Un (FV X.stack) ch H H' s.heap s'.heap)(bU:oA X.prog X.w H' s'.heap)(hg:AllBare s'.gens)(LV:∀b∈ch,(b∈X.ex∨X.s₀.heap.objs.size≤b)∧b≠X.env.locals∧(∀x c,X.env.cells.lookup x=some c→c≠b)∧∀p∈X.pn++pins,p.1≠b):Inv X pins σ H' s':=by
  obtain⟨h',g',d',t',o'⟩:=s';have e:o'=s.os:=ho;subst e;exact I.call (g':=g') (t':=t') (d':=d') u bU hg LV
end
abbrev XK:=Value→Option Addr→Hp→Prop
abbrev St:=List (Option V)
abbrev VK:=V→Hp→Prop
abbrev TE:=St→Hp→VK→Prop
abbrev TT:=St→Hp→(Bool→Hp→Prop)→Prop
abbrev TA:=St→Hp→(List V→Hp→Prop)→Prop
structure Ends where
  nx:St→Hp→Prop
  rt:VK
  bk:St→Hp→Prop:=fun _ _=>False
  ct:St→Hp→Prop:=fun _ _=>False
abbrev TS:=Ends→St→Hp→Prop
def EP(X:Cx)(pins:gu)(σ:St)(Q:VK)(u:Value)(s':Shared):Prop:=∃v H',Inv X pins σ H' s'∧RelV v u∧Q v H'
def TP(X:Cx)(pins:gu)(σ:St)(Q:Bool→Hp→Prop)(b:Bool)(s':Shared):Prop:=∃H',Inv X pins σ H' s'∧Q b H'
def AP(X:Cx)(pins:gu)(σ:St)(Q:List V→Hp→Prop)(us:cv)(s':Shared):Prop:=∃vs H',Inv X pins σ H' s'∧Vals vs us∧Q vs H'
def SP(X:Cx)(pins:gu)(D:Ends)(f:Flow)(s':Shared):Prop :=
  match f with
  |.next=>∃σ' H',Inv X pins σ' H' s'∧D.nx σ' H'
  |.brk=>∃σ' H',Inv X pins σ' H' s'∧D.bk σ' H'
  |.cont=>∃σ' H',Inv X pins σ' H' s'∧D.ct σ' H'
  |.ret u=>∃v σ' H',Inv X pins σ' H' s'∧RelV v u∧D.rt v H'
def PE(X:Cx)(e:Expr)(t:TE):Prop :=
  ∀(pins:gu) (s:Shared) (σ:St) (H:Hp) (Q:VK),Inv X pins σ H s→t σ H Q→wpAny (model X.prog X.w) X.A (eval e X.env) (EP X pins σ Q) X.xe s
def PT(X:Cx)(e:Expr)(t:TT):Prop :=
  ∀(pins:gu) (s:Shared) (σ:St) (H:Hp) (Q:Bool→Hp→Prop),Inv X pins σ H s→t σ H Q→wpAny (model X.prog X.w) X.A (isTrue e X.env (eval e X.env)) (TP X pins σ Q) X.xe s
def PW(X:Cx)(e:Expr)(t:TT):Prop :=
  ∀(whole:Sem Value) (pins:gu) (s:Shared) (σ:St) (H:Hp) (Q:Bool→Hp→Prop),Inv X pins σ H s→t σ H Q→wpAny (model X.prog X.w) X.A (isTrue e X.env whole) (TP X pins σ Q) X.xe s
theorem PW.pt{X:Cx}{t:TT}(h:PW X e t):PT X e t:=h _
def PA(X:Cx)(es:List Expr)(t:TA):Prop :=
  ∀(pos:Pos) (pins:gu) (s:Shared) (σ:St) (H:Hp) (Q:List V→Hp→Prop),Inv X pins σ H s→t σ H Q→wpAny (model X.prog X.w) X.A (spliced (backTo pos (starEach es X.env))) (AP X pins σ Q) X.xe s
def PS(X:Cx)(st:Stmt)(t:TS):Prop :=
  ∀(pins:gu) (s:Shared) (σ:St) (H:Hp) (D:Ends),Inv X pins σ H s→t D σ H→wpAny (model X.prog X.w) X.A (exec st X.env) (SP X pins D) X.xe s
def xM(X:Cx)(st:List Stmt)(t:TS):Prop :=
  ∀(pins:gu) (s:Shared) (σ:St) (H:Hp) (D:Ends),Inv X pins σ H s→t D σ H→wpAny (model X.prog X.w) X.A (execs st X.env) (SP X pins D) X.xe s
theorem cQ{α:Type}{t:Sem α}{Q Q':α→Shared→Prop}{M:Model}(h:wpAny M A t Q E s)(hQ:∀a s,Q a s→Q' a s):wpAny M A t Q' E s:=mq h hQ fun _ _ x=>x
section
variable {X:Cx}
theorem bin{a b:Expr}{ta tb:TE}(ha:PE X a ta)(hb:PE X b tb){σ:St}{H:Hp}{R:V→V→Hp→Prop}(I:Inv X pins σ H s)(h:ta σ H fun x H1=>tb σ H1 fun y H2=>R x y H2){α:Type}{Q:α→Shared→Prop}{f:Value→Value→Sem α}(hf:∀v u s2 x y H2,Inv X pins σ H2 s2→RelV x v→RelV y u→R x y H2→wpAny (model X.prog X.w) X.A (f v u) Q X.xe s2):wpAny (model X.prog X.w) X.A (eval a X.env) (fun v s₁=>wpAny (model X.prog X.w) X.A (eval b X.env) (fun u s₂=>wpAny (model X.prog X.w) X.A (f v u) Q X.xe s₂) X.xe s₁) X.xe s:=by
  refine cQ (ha pins s σ H _ I h) fun v s1 ⟨x,H1,I1,r1,q1⟩=>?_;refine cQ (hb pins s1 σ H1 _ I1 q1) fun u s2 ⟨y,H2,I2,r2,q2⟩=>?_;exact hf v u s2 x y H2 I2 r1 r2 q2
def jY(i:Nat):TE:=fun σ H Q=>∃v,σ[i]?=some (some v)∧Q v H
def tC(v:V):TE:=fun _ H Q=>Q v H
theorem cM(hN:X.N[i]?=some x)(hv:pL X.env.scope x)(hd:(x==("__debug__":Str))=false:=by decide)(dR:(x==("__classdict__":Str))=false:=by decide):PE X (.Name x pos) (jY i):=by
  intro pins s σ H Q I h;obtain⟨v,e,h⟩:=h;obtain⟨m,hn,hl⟩:=I.loc;obtain⟨u,r,l⟩:=hl i x v hN e hv;have fin:EP X pins σ Q u s:=⟨v,H,I,r,h⟩
  rcases l with⟨hk,hm⟩|⟨hk,c,hc,D4⟩
  ·exact wpAny_Name (wpAny_loadName_local I.ok.kind hk hn hm fin) hd
  · rcases hk with hk|hk
    ·exact wpAny_Name (wpAny_loadName_cell I.ok.kind hk hc D4 fin) hd
    ·exact wpAny_Name (wpAny_loadName_free I.ok.kind hk hc D4 fin dR) hd
theorem gT{i j pos}:PE X (.Constant (.int i) j pos) (tC (.int i)):=fun _ _ _ H _ I h=>wpAny_Constant_int ⟨.int i,H,I.tok _,⟨_,rfl⟩,h⟩
theorem zD{b j pos}:PE X (.Constant (.bool b) j pos) (tC (.bl b)):=fun _ _ _ H _ I h=>Constant_bool ⟨.bl b,H,I,rfl,h⟩
theorem HL{j pos}:PE X (.Constant .none j pos) (tC .non):=fun _ _ _ H _ I h=>Constant_none ⟨.non,H,I,rfl,h⟩
theorem P1{x j pos}:PE X (.Constant (.str x) j pos) (tC (.str x)):=fun _ _ _ H _ I h=>Calls.Constant_str ⟨.str x,H,I.tok _,⟨_,rfl⟩,h⟩
def Gl(X:Cx)(x:Str):Prop:=X.env.kindOf x=some .globalImplicit
theorem pM{σ:St}{H:Hp}(I:Inv X pins σ H s)(hg:Gl X x)(hm:X.mg x=some u)(h:Q u s)(hd:(x==("__debug__":Str))=false:=by decide):wpAny (model X.prog X.w) X.A (eval (.Name x pos) X.env) Q E s :=
  Calls.Name_function_global I.ok.kind hg (Calls.loadGlobal_global (by rw[I.ok.glob];exact I.mod.glob.keeps I.bk) hm h) hd
theorem gU{σ:St}{H:Hp}(I:Inv X pins σ H s)(hg:Gl X x)(hm:X.mg x=none)(hv:bootBuiltins x=some u)(h:Q u s)(hn:x≠"__name__":=by decide)(hd:(x==("__debug__":Str))=false:=by decide):wpAny (model X.prog X.w) X.A (eval (.Name x pos) X.env) Q E s:=by
  obtain⟨mb,h1,h2⟩:=I.mod.blt;exact Calls.Name_function_global I.ok.kind hg (Calls.loadGlobal_builtin (by rw[I.ok.glob];exact I.mod.glob.keeps I.bk) hm (by rw[I.ok.blt];exact h1.keeps I.bk) ((h2 x hn).trans hv) h) hd
theorem L5{v:V}(hg:Gl X x)(hm:X.mg x=some u)(r:RelV v u)(hd:(x==("__debug__":Str))=false:=by decide):PE X (.Name x pos) (tC v) :=
  fun _ _ _ H _ I h=>pM I hg hm ⟨v,H,I,r,h⟩ hd
theorem L6{v:V}(hg:Gl X x)(hm:X.mg x=none)(hv:bootBuiltins x=some u)(r:RelV v u)(hn:x≠"__name__":=by decide)(hd:(x==("__debug__":Str))=false:=by decide):PE X (.Name x pos) (tC v) :=
  fun _ _ _ H _ I h=>gU I hg hm hv ⟨v,H,I,r,h⟩ hn hd
variable {a b:Expr} {ta tb:TE} {pos:Pos}
def PC(X:Cx)(op:CmpOp)(a b:Expr)(t:TE):Prop :=
  ∀(pins:gu) (s:Shared) (σ:St) (H:Hp) (Q:VK),Inv X pins σ H s→t σ H Q →
   wpAny (model X.prog X.w) X.A (eval a X.env) (fun v s₁=>wpAny (model X.prog X.w) X.A (eval b X.env) (fun u s₂=>wpAny (model X.prog X.w) X.A (compareOp op v u) (EP X pins σ Q) X.xe s₂) X.xe s₁) X.xe s
theorem HM(b:Expr)(h:op≠.In)(h2:op≠.NotIn):behindInMarks op b=false:=by
  have e1:(op==CmpOp.In)=false:=by cases op<;>first|rfl|exact absurd rfl h
  have e2:(op==CmpOp.NotIn)=false:=by cases op<;>first|rfl|exact absurd rfl h2
  cases b<;>simp[behindInMarks,e1,e2]
def tB(t:TE):TT:=fun σ H Q=>t σ H fun x H1=>∃c,x=.bl c∧Q c H1
theorem Wy{t:TE}(h:PC X op a b t)(h1:behindInMarks op b=false:=by first|exact HM _ (by decide) (by decide)|rfl):PT X (.Compare a [op] [b] pos) (tB t):=by intro pins s σ H Q I hw;refine wpAny_isTrue_Compare1 (cQ (h pins s σ H _ I hw) fun v s1 h1=>cQ h1 fun u s2 h2=>cQ h2 fun c s3 ⟨x,H1,I1,r1,q1⟩=>?_) h1;obtain⟨d,rfl,q⟩:=q1;cases r1;exact wpAny_truthy_bool ⟨H1,I1,q⟩
theorem HN{t:TE}(h:PE X e t)(he:∀whole,isTrue e X.env whole=(do let v ←whole;standAt e.pos;holding [v] (truthy v)):=by intro _;rfl):PT X e (tB t):=by intro pins s σ H Q I hw;refine isTrue_plain (cQ (h pins s σ H _ I hw) fun v s1 ⟨x,H1,I1,r1,q1⟩=>?_) (he _);obtain⟨d,rfl,q⟩:=q1;cases r1;exact wpAny_truthy_bool ⟨H1,I1,q⟩
variable {tA VC:TT} {rest:List Expr}
def Td(t u:TT):TT:=fun σ H Q=>t σ H fun c H1=>if c=true then u σ H1 Q else Q false H1
def ZL(t u:TT):TT:=fun σ H Q=>t σ H fun c H1=>if c=true then Q true H1 else u σ H1 Q
def P2(t:TT):TT:=fun σ H Q=>t σ H fun c H1=>Q (!c) H1
theorem pw_and1(ha:PT X a tA):PW X (.BoolOp .And [a] pos) tA:=by
  intro wh pins s σ H Q I h;refine isTrue_and (cQ (ha pins s σ H Q I h) fun c s1 e=>?_);cases c with
  |true=>exact isTrue_and_nil e
  |false=>exact e
theorem pw_or1(ha:PT X a tA):PW X (.BoolOp .Or [a] pos) tA:=by
  intro wh pins s σ H Q I h;refine isTrue_or (cQ (ha pins s σ H Q I h) fun c s1 e=>?_);cases c with
  |false=>exact isTrue_or_nil e
  |true=>exact e
theorem pw_and(ha:PT X a tA)(hb:PW X (.BoolOp .And (b::rest) pos) VC):PW X (.BoolOp .And (a::b::rest) pos) (Td tA VC):=by
  intro wh pins s σ H Q I h;refine isTrue_and (cQ (ha pins s σ H _ I h) fun c s1 ⟨H1,I1,q1⟩=>?_);cases c with
  |true=>exact hb wh pins s1 σ H1 Q I1 q1
  |false=>exact⟨H1,I1,q1⟩
theorem pw_or(ha:PT X a tA)(hb:PW X (.BoolOp .Or (b::rest) pos) VC):PW X (.BoolOp .Or (a::b::rest) pos) (ZL tA VC):=by
  intro wh pins s σ H Q I h;refine isTrue_or (cQ (ha pins s σ H _ I h) fun c s1 ⟨H1,I1,q1⟩=>?_);cases c with
  |true=>exact⟨H1,I1,q1⟩
  |false=>exact hb wh pins s1 σ H1 Q I1 q1
theorem HP(ha:PT X a tA):PT X (.UnaryOp .Not a pos) (P2 tA):=by intro pins s σ H Q I h;exact isTrue_not (ha pins s σ H (fun c H1=>Q (!c) H1) I h)
def HQ(ta tb:TE):TE:=fun σ H Q=>ta σ H fun x H1=>∃c,x=.bl c∧if c=true then tb σ H1 Q else Q (.bl false) H1
def Te(ta:TE):TE:=fun σ H Q=>ta σ H fun x H1=>∃c,x=.bl c∧Q (.bl (!c)) H1
theorem HR{op}{t:TE}(h:PE X a t):PE X (.BoolOp op [a] pos) t:=fun pins s σ H Q I hw=>BoolOp_one (h pins s σ H Q I hw)
theorem HS(ha:PE X a ta)(hb:PE X (.BoolOp .And (b::rest) pos) tb):PE X (.BoolOp .And (a::b::rest) pos) (HQ ta tb):=by
  intro pins s σ H Q I h;refine BoolOp_and (cQ (ha pins s σ H _ I h) fun v s1 ⟨x,H1,I1,r1,q1⟩=>?_);obtain⟨c,rfl,q1⟩:=q1;cases r1;refine wpAny_truthy_bool ?_;cases c with
  |true=>exact hb pins s1 σ H1 Q I1 q1
  |false=>exact⟨.bl false,H1,I1,rfl,q1⟩
theorem P4(ha:PE X a ta):PE X (.UnaryOp .Not a pos) (Te ta):=by intro pins s σ H Q I h;refine UnaryOp_ (cQ (ha pins s σ H _ I h) fun v s1 ⟨x,H1,I1,r1,q1⟩=>?_);obtain⟨c,rfl,q1⟩:=q1;cases r1;exact not_of (wpAny_truthy_bool ⟨.bl (!c),H1,I1,rfl,q1⟩)
end
def eW(K:PySem.W.Frag)(H:Hp)(a:Addr)(xs:List V):Prop :=
  Rd H a (.lst xs) ∨
    ∃(o:Obj) (its:Array Value) (n:Nat),K.lookup a=some o∧o.cls=.type "list"∧o.dict=none∧o.data=.seq its n∧its.size≤sizeLine∧Vals xs its.toList
def gw(K:PySem.W.Frag)(H:Hp)(a:Addr)(xs:List V):Prop :=
  Rd H a (.tup xs) ∨
    ∃(o:Obj) (its:Array Value) (n:Nat),K.lookup a=some o∧o.cls=.type "tuple"∧o.data=.seq its n∧its.size≤sizeLine∧Vals xs its.toList
def Wz:Value→Option V
  |.none=>some .non
  |.bool b=>some (.bl b)
  |.int i _=>some (.int i)
  |.str x _=>some (.str x)
  |.bytes b _=>some (.Hs b)
  |.float b _=>some (.PX b)
  |.ref a=>some (.ref a)
  |.type n=>some (.ty n)
  |_=>none
theorem RelV.abs{x:V}(r:RelV x u):Wz u=some x:=by
  cases x with
  |non=>cases r;rfl
  |bl _=>cases r;rfl
  |int _=>obtain⟨t,rfl⟩:=r;rfl
  |str _=>obtain⟨t,rfl⟩:=r;rfl
  |Hs _=>obtain⟨t,rfl⟩:=r;rfl
  |PX _=>obtain⟨t,rfl⟩:=r;rfl
  |ref _=>cases r;rfl
  |ty _=>cases r;rfl
theorem RelV.inj{x y:V}(r:RelV x u)(q:RelV y u):x=y:=jG (r.abs.symm.trans q.abs)
theorem Vals.inj:∀{xs ys:List V} {us:cv},Vals xs us→Vals ys us→xs=ys
  |_,_,_,.nil,.nil=>rfl
  |_,_,_,.cons r t,.cons r' t'=>by rw[r.inj r',Vals.inj t t']
section
variable {X:Cx} {pins:gu} {σ:St} {H:Hp} {s:Shared} {a:Addr} {xs ys:List V}
theorem eW.of{K:PySem.W.Frag}(h:H a=some (.lst xs)):eW K H a xs:=.inl (.inl h)
theorem gw.of{K:PySem.W.Frag}(h:H a=some (.tup xs)):gw K H a xs:=.inl (.inl h)
theorem Inv.list(I:Inv X pins σ H s)(h:eW X.K H a xs):∃its:cv,Vals xs its∧PlainL s.heap a its.toArray∧xs.length≤sizeLine:=by
  rcases h with h|⟨o,its,n,hk,hc,hd,hs,hz,r⟩
  ·obtain⟨z,its,n,r,e⟩:=h.ok I.bU;exact⟨its,r,⟨_,n,e,rfl,rfl,rfl⟩,z⟩
  ·refine⟨its.toList,r,⟨o,n,I.rg a o hk,hc,hd,by simpa using hs⟩,?_⟩;have e:=r.length;simp only[jc] at e;omega
theorem Inv.tuple(I:Inv X pins σ H s)(h:gw X.K H a xs):∃its:cv,Vals xs its∧IsTup s.heap a its.toArray∧xs.length≤sizeLine:=by
  rcases h with h|⟨o,its,n,hk,hc,hs,hz,r⟩
  ·obtain⟨z,its,r,p⟩:=h.ok I.bU;exact⟨its,r,p,z⟩
  ·refine⟨its.toList,r,⟨o,I.rg a o hk,hc,n,by simpa using hs⟩,?_⟩;have e:=r.length;simp only[jc] at e;omega
theorem Inv.zF(I:Inv X pins σ H s)(h:eW X.K H a xs)(h':eW X.K H a ys):xs=ys:=by
  obtain⟨its,r,⟨o,n,e,_,_,d⟩,_⟩:=I.list h;obtain⟨its',r',⟨o',n',e',_,_,d'⟩,_⟩:=I.list h';rw[e] at e';cases e';rw[d] at d';injection d' with d1 _;have:its=its':=by simpa using fS Array.toList d1
  subst this;exact r.inj r'
theorem Inv.FX(I:Inv X pins σ H s)(h:gw X.K H a xs)(h':gw X.K H a ys):xs=ys:=by
  obtain⟨its,r,⟨o,e,_,n,d⟩,_⟩:=I.tuple h;obtain⟨its',r',⟨o',e',_,n',d'⟩,_⟩:=I.tuple h';rw[e] at e';cases e';rw[d] at d';injection d' with d1 _;have:its=its':=by simpa using fS Array.toList d1
  subst this;exact r.inj r'
end
abbrev Cx.tj(X:Cx)(E:fR):Cx:={ X with xe:=E }
abbrev Cx.LW(X:Cx):Cx:=X.tj fun _ _=>False
theorem Cx.Ok.tj{X:Cx}(ok:X.Ok)(E:fR):(X.tj E).Ok :=
  ⟨ok.mod,ok.kind,ok.glob,ok.blt,ok.above,ok.inj,ok.has,ok.Sl,ok.hd,ok.frames,ok.Ta,ok.Ws,ok.bs,ok.L4,ok.FW,ok.HK,ok.rC,ok.OW⟩
theorem Cx.Ok.jZ{X:Cx}(ok:(X.tj E).Ok):X.Ok :=
  ⟨ok.mod,ok.kind,ok.glob,ok.blt,ok.above,ok.inj,ok.has,ok.Sl,ok.hd,ok.frames,ok.Ta,ok.Ws,ok.bs,ok.L4,ok.FW,ok.HK,ok.rC,ok.OW⟩
section
variable {X:Cx} {pins:gu} {σ:St} {H:Hp} {s:Shared} {E:fR}
theorem Inv.tj(I:Inv X pins σ H s)(E:fR):Inv (X.tj E) pins σ H s:=⟨I.ok.tj E,I.os,I.bare,I.base,I.loc,I.cell,I.free,I.fI,I.pin,I.bU,I.len⟩
theorem Inv.jZ(I:Inv (X.tj E) pins σ H s):Inv X pins σ H s:=⟨I.ok.jZ,I.os,I.bare,I.base,I.loc,I.cell,I.free,I.fI,I.pin,I.bU,I.len⟩
theorem SP.jZ{D:Ends}{f:Flow}{s':Shared}(h:SP (X.tj E) pins D f s'):SP X pins D f s':=by
  cases f with
  |next=>obtain⟨σ',H',I,q⟩:=h;exact⟨σ',H',I.jZ,q⟩
  |brk=>obtain⟨σ',H',I,q⟩:=h;exact⟨σ',H',I.jZ,q⟩
  |cont=>obtain⟨σ',H',I,q⟩:=h;exact⟨σ',H',I.jZ,q⟩
  |ret u=>obtain⟨v,σ',H',I,r,q⟩:=h;exact⟨v,σ',H',I.jZ,r,q⟩
theorem PE.LW{t:TE}(h:PE X.LW e t):PE X e t:=fun pins s σ H Q I hw =>
  mq (h pins s σ H Q (I.tj _) hw) (fun _ _ ⟨v,H',I',r,q⟩=>⟨v,H',I'.jZ,r,q⟩) fun _ _ z=>False.elim z
theorem PT.LW{t:TT}(h:PT X.LW e t):PT X e t:=fun pins s σ H Q I hw =>
  mq (h pins s σ H Q (I.tj _) hw) (fun _ _ ⟨H',I',q⟩=>⟨H',I'.jZ,q⟩) fun _ _ z=>False.elim z
theorem xM.LW{st:List Stmt}{t:TS}(h:xM X.LW st t):xM X st t:=fun pins s σ H D I hw =>
  mq (h pins s σ H D (I.tj _) hw) (fun _ _ q=>q.jZ) fun _ _ z=>False.elim z
end
section
variable {X:Cx} {st:Stmt} {rest:List Stmt} {t u:TS} {e:Expr} {te:TE} {pos:Pos}
def D5:TS:=fun D σ H=>D.nx σ H
def HV(t u:TS):TS:=fun D σ H=>t { D with nx:=u D } σ H
theorem xN:xM X [] D5:=fun _ _ σ H _ I h=>wpAny_execs_nil ⟨σ,H,I,h⟩
theorem dc(h1:PS X st t)(h2:xM X rest u):xM X (st::rest) (HV t u):=by
  intro pins s σ H D I h;refine wpAny_execs_cons (cQ (h1 pins s σ H { D with nx:=u D } I h) fun f s1 q=>?_);cases f with
  |next=>obtain⟨σ',H',I',q⟩:=q;exact h2 pins s1 σ' H' D I' q
  |ret v=>exact q
  |brk=>exact q
  |cont=>exact q
theorem m7(h1:PS X st t):xM X [st] t:=by
  intro pins s σ H D I h;refine wpAny_execs_cons (cQ (h1 pins s σ H D I h) fun f s1 q=>?_);cases f with
  |next=>exact wpAny_execs_nil q
  |ret v=>exact q
  |brk=>exact q
  |cont=>exact q
theorem Inv.quiet{σ:St}{H:Hp}(I:Inv X pins σ H s):interactive X.env=false:=by simp[interactive,I.ok.kind]
def Tf(te:TE):TS:=fun D σ H=>te σ H fun _ H1=>D.nx σ H1
theorem kL(he:PE X e te)(hs:swapsWith e none pos.line X.env=pure false:=by rfl):PS X (.Expr e pos) (Tf te):=by intro pins s σ H D I h;exact wpAny_Expr_any (cQ (he pins s σ H _ I h) fun v s1 ⟨x,H1,I1,r1,q1⟩=>⟨σ,H1,I1,q1⟩) I.quiet hs
def HW(te:TE):TS:=fun D σ H=>te σ H D.rt
theorem mv(he:PE X e te):PS X (.Return (some e) pos) (HW te):=by intro pins s σ H D I h;exact wpAny_Return_some (cQ (he pins s σ H _ I h) fun v s1 ⟨x,H1,I1,r1,q1⟩=>⟨x,σ,H1,I1,r1,q1⟩)
def L7(c:TT)(t u:TS):TS:=fun D σ H=>c σ H fun b H1=>if b=true then t D σ H1 else u D σ H1
theorem HX{c:Expr}{a b:List Stmt}{tc:TT}(hc:PT X c tc)(ha:xM X a t)(hb:xM X b u):PS X (.If c a b pos) (L7 tc t u):=by
  intro pins s σ H D I h;refine wpAny_If (cQ (hc pins s σ H _ I h) fun d s1 ⟨H1,I1,q1⟩=>?_);cases d with
  |true=>exact ha pins s1 σ H1 D I1 q1
  |false=>exact hb pins s1 σ H1 D I1 q1
end
abbrev TG:=V→St→Hp→(St→Hp→Prop)→Prop
abbrev L8:=List V→St→Hp→(St→Hp→Prop)→Prop
def PG(X:Cx)(target:Expr)(t:TG):Prop :=
  ∀(pins:gu) (s:Shared) (σ:St) (H:Hp) (v:V) (u:Value) (Q:St→Hp→Prop),Inv X pins σ H s→RelV v u→t v σ H Q →
   wpAny (model X.prog X.w) X.A (assign target X.env u) (fun _ s'=>∃σ' H',Inv X pins σ' H' s'∧Q σ' H') X.xe s
def LX(X:Cx)(ts:List Expr)(t:L8):Prop :=
  ∀(pins:gu) (s:Shared) (σ:St) (H:Hp) (vs:List V) (us:cv) (Q:St→Hp→Prop),Inv X pins σ H s→Vals vs us→t vs σ H Q →
   wpAny (model X.prog X.w) X.A (assignInOrder ((assignEach ts X.env).map (·.2)) us) (fun _ s'=>∃σ' H',Inv X pins σ' H' s'∧Q σ' H') X.xe s
abbrev P5:=V→V→V→Hp→(Hp→Prop)→Prop
def Tg(X:Cx)(t:P5):Prop :=
  ∀(pins:gu) (s:Shared) (σ:St) (H:Hp) (o i v:V) (ov iv u:Value) (Q:Hp→Prop),Inv X pins σ H s→RelV o ov→RelV i iv→RelV v u→t o i v H Q →
   wpAny (model X.prog X.w) X.A (setItem ov iv u) (fun _ s'=>∃H',Inv X pins σ H' s'∧Q H') X.xe s
section
variable {X:Cx} {pos:Pos}
def nQ(i:Nat):TG:=fun v σ H Q=>Q (σ.set i (some v)) H
theorem D6(hN:X.N.Nodup)(hi:X.N[i]?=some x)(hx:Loc X.env.scope x)(hf:X.fn x=true∨X.env.scope.names.lookup x=some .local:=by first|exact .inl rfl|exact .inr rfl|assumption):PG X (.Name x pos) (nQ i):=by intro pins s σ H v u Q I r h;exact wpAny_assign_Name (zC I hN hi hx r (fun s' I'=>⟨_,H,I',h⟩) hf)
def WB:L8:=fun vs σ H Q=>vs=[]∧Q σ H
def Ti(t:TG)(u:L8):L8:=fun vs σ H Q=>∃v r,vs=v::r∧t v σ H fun σ' H'=>u r σ' H' Q
theorem L9:LX X [] WB:=by intro pins s σ H vs us Q I r h;obtain⟨e,h⟩:=h;subst e;cases r;exact assignInOrder_nil ⟨σ,H,I,h⟩
theorem HY{es:List Expr}{t:TG}{u:L8}(h1:PG X e t)(h2:LX X es u)(hs:(assignEach (e::es) X.env).map (·.2)=assign e X.env::(assignEach es X.env).map (·.2):=by rfl):LX X (e::es) (Ti t u):=by
  intro pins s σ H vs us Q I r h;obtain⟨v,vr,e1,h⟩:=h;subst e1;cases r with
  |cons r rr=>rw[hs];refine assignInOrder_cons (cQ (h1 pins s σ H _ _ _ I r h) fun _ s1 ⟨σ1,H1,I1,q1⟩=>?_);exact h2 pins s1 σ1 H1 _ _ Q I1 rr q1
def WC(K:PySem.W.Frag)(n:Nat)(t:L8):TG:=fun v σ H Q=>∃a xs,v=.ref a∧gw K H a xs∧xs.length=n∧t xs σ H Q
theorem P6{es:List Expr}{t:L8}(hc:X.calm=true)(h:LX X es t)(hn:(assignEach es X.env).length=n:=by rfl)(BH:(assignEach es X.env).findIdx? (·.1)=none:=by rfl):PG X (.Tuple es k pos) (WC X.K n t):=by
  intro pins s σ H v u Q I r hw;obtain⟨a,xs,e1,hq,hl,hw⟩:=hw;subst e1;cases r;obtain⟨its,rv,ht,hz⟩:=I.tuple hq;refine assign_Tuple_tuple (I.ok.hd hc) ht (by simp[hn,←hl,rv.length]) BH fun h' hx=>?_;have I1:Inv X pins σ H { s with heap:=h' }:=I.kept (t':=s.toks) fun b o e=>hx b o (dw (bL e)) e;exact h pins _ σ H xs _ Q I1 (by simpa using rv) hw
def WD(to ti:TE)(t:P5):TG:=fun v σ H Q=>to σ H fun o H1=>ti σ H1 fun i H2=>t o i v H2 fun H3=>Q σ H3
theorem P7{o i:Expr}{to ti:TE}{t:P5}(ho:PE X o to)(hi:PE X i ti)(hs:Tg X t)(ha:∀v,assign (.Subscript o i pos) X.env v=(do
      let ov ←holding [v] (eval o X.env)
      let iv ←holding [v,ov] (eval i X.env)
      standAt pos
      holding [v,ov,iv] (setItem ov iv v)
      release [v,ov,iv] []):=by intro _;rfl):PG X (.Subscript o i pos) (WD to ti t):=by
  intro pins s σ H v u Q I r h;rw[ha];refine aT (pI (cQ (ho pins s σ H _ I h) fun ov s1 ⟨x,H1,I1,r1,q1⟩=>?_));refine aT (pI (cQ (hi pins s1 σ H1 _ I1 q1) fun iv s2 ⟨y,H2,I2,r2,q2⟩=>?_));refine aT (wpAny_standAt (aT (pI (cQ (hs pins s2 σ H2 x y v ov iv u _ I2 r1 r2 r q2) fun _ s3 ⟨H3,I3,q3⟩=>?_))));exact wpAny_release ⟨σ,H3,I3,q3⟩
def xO(te:TE)(g:TG):TS:=fun D σ H=>te σ H fun x H1=>g x σ H1 D.nx
theorem P8{te:TE}{g:TG}(he:PE X e te)(hg:PG X tg g)(hs:swapsWithSole [tg] e pos.line X.env=pure false:=by rfl)(hw:swappedStores [tg] e X.env=pure none:=by rfl)(h1:(assignEach [tg] X.env).map (·.2)=[assign tg X.env]:=by rfl):PS X (.Assign [tg] e pos) (xO te g):=by
  intro pins s σ H D I h;refine wpAny_Assign_stores (cQ (he pins s σ H _ I h) fun v s1 ⟨x,H1,I1,r1,q1⟩=>?_) hs hw;rw[h1];exact cQ (hg pins s1 σ H1 x v _ I1 r1 q1) fun _ s2 q=>q
theorem je{te:TE}(hN:X.N.Nodup)(hi:X.N[i]?=some x)(hx:Loc X.env.scope x)(he:PE X e te)(hs:swapsWith e (some (.Name x pos')) pos.line X.env=pure false:=by rfl)(hf:X.fn x=true∨X.env.scope.names.lookup x=some .local:=by first|exact .inl rfl|exact .inr rfl|assumption):PS X (.Assign [.Name x pos'] e pos) (xO te (nQ i)):=by
  intro pins s σ H D I h;refine wpAny_Assign_Name (cQ (he pins s σ H _ I h) fun v s1 ⟨y,H1,I1,r1,q1⟩=>?_) hs;exact zC I1 hN hi hx r1 (fun s2 I2=>⟨_,H1,I2,q1⟩) hf
end
section
variable {X:Cx} {pos:Pos}
def P9(c:TT)(tb:TS):TS:=fun D σ H=>∃W:Nat→St→Hp→Prop,(∃m,W m σ H)∧∀m σ H,W m σ H →
  c σ H fun b H1=>if b=true then ∃N:St→Hp→Prop,(∀σ' H',N σ' H'→∃m',m'<m∧W m' σ' H')∧tb { D with nx:=N,ct:=N,bk:=D.nx } σ H1 else D.nx σ H1
theorem HZ{c:Expr}{tc:TT}{tb:TS}(hp:PassesOwn (model X.prog X.w) X.A X.env X.xe)(hc:PT X c tc)(hb:xM X body tb):PS X (.While c body [] pos) (P9 tc tb):=by
  intro pins s σ H D I h;obtain⟨W,⟨m0,w0⟩,turn⟩:=h;refine wpAny_While (codeAny_whileLoop (fun n s'=>∃σ' H',Inv X pins σ' H' s'∧W n σ' H') ?_ m0 ⟨σ,H,I,w0⟩);rintro n s1 ⟨σ1,H1,I1,w1⟩;refine wpAny_passesOwn hp (cQ (hc pins s1 σ1 H1 _ I1 (turn n σ1 H1 w1)) fun b s2 ⟨H2,I2,q2⟩=>?_);cases b with
  |true =>
   obtain⟨N,hN,q2⟩:=q2;rw[ay rfl];refine wpAny_passesOwn hp (cQ (hb pins s2 σ1 H2 _ I2 q2) fun f s3 q3=>?_);cases f with
   |next=>obtain⟨σ3,H3,I3,n3⟩:=q3;obtain⟨m',hm,w3⟩:=hN σ3 H3 n3;exact⟨m',hm,σ3,H3,I3,w3⟩
   |cont=>obtain⟨σ3,H3,I3,n3⟩:=q3;obtain⟨m',hm,w3⟩:=hN σ3 H3 n3;exact⟨m',hm,σ3,H3,I3,w3⟩
   |brk=>exact q3
   |ret v=>exact q3
  |false=>rw[az gP];exact wpAny_execs_nil ⟨σ1,H2,I2,q2⟩
end
structure It where
  go:Nat→Hp→Prop
  BI:Nat→Hp→V→Hp→Prop
  stop:Nat→Hp→Prop
def fQ(X:Cx)(pins:gu)(H:Hp)(b:Addr):Prop :=
  H b=none∧b≠X.env.locals∧b∉X.fs∧(b∈X.ex∨X.s₀.heap.objs.size≤b)∧(∀x c,X.env.cells.lookup x=some c→c≠b)∧∀p∈X.pn++pins,p.1≠b
theorem Inv.tm{X:Cx}{σ:St}{H H':Hp}(I:Inv X pins σ H s)(hb:s.heap.objs.size≤b)(hn:H' b=none):fQ X pins H' b:=by
  refine⟨hn,pK (jX I.lt hb),I.PZ hb,.inr (gy I.sz hb),fun x c e z=>?_,fun p hp z=>?_⟩
  ·obtain⟨v,q⟩:=I.cell x c e;exact absurd (jX q.lt (by rw[z];exact hb)) (rn _)
  ·exact absurd (jX (bL (I.pin p hp).1) (by rw[z];exact hb)) (rn _)
structure Turn (P:Program) (w:World) (K:PySem.W.Frag) (tg:Expr) (J:It) (fp:List Addr) (it:Addr) (tn:Nat→Heap→Prop):Prop where
  mem:it∈fp
  obj:∀i h,tn i h→∀b∈fp,∃o,h.get? b=some o∧∀v,o.data≠.cell v
  keep:∀i h h',tn i h→(∀b∈fp,∀o,h.get? b=some o→h'.get? b=some o)→tn i h'
  item:∀(X:Cx),X.prog=P→X.w=w→X.K=K→X.calm=true→∀(i:Nat) (pins:gu) (s:Shared) (σ:St) (H:Hp) (E:fR),Inv X pins σ H s→(∀b∈fp,fQ X pins H b)→tn i s.heap→J.go i H →
    wpAny (model P w) X.A (pyNext (.ref it)) (fun r s1=>∃u,r=some u ∧
      wpAny (model P w) X.A (letOwnedTupleGo tg (.ref it) u) (fun _ s2=>∃x H',Inv X pins σ H' s2∧RelV x u∧J.BI i H x H'∧tn (i+1) s2.heap∧∀b∈fp,H' b=none) E s1) E s
  done:∀(X:Cx),X.prog=P→X.w=w→X.K=K→X.calm=true→∀(i:Nat) (pins:gu) (s:Shared) (σ:St) (H:Hp) (E:fR),Inv X pins σ H s→(∀b∈fp,fQ X pins H b)→tn i s.heap→J.stop i H →
    wpAny (model P w) X.A (pyNext (.ref it)) (fun r s1=>r=none∧Inv X pins σ H s1) E s
  self:∀(A:Around) (i:Nat) (s:Shared) (Q:fR) (E:fR),tn i s.heap→Q (.ref it) s→wpAny (model P w) A (pyIter (.ref it)) Q E s
abbrev TI:=St→Hp→(It→Hp→Prop)→Prop
def ZM(X:Cx)(pins:gu)(σ:St)(tg:Expr)(R:It→Hp→Prop)(VD:Value)(s2:Shared):Prop :=
  ∃(it:Addr) (fp:List Addr) (tn:Nat→Heap→Prop) (J:It) (H':Hp),VD=.ref it∧Inv X pins σ H' s2∧Turn X.prog X.w X.K tg J fp it tn∧tn 0 s2.heap∧(∀b∈fp,fQ X pins H' b)∧R J H'
def PI(X:Cx)(tg iter:Expr)(wi:TI):Prop :=
  ∀(pins:gu) (s:Shared) (σ:St) (H:Hp) (R:It→Hp→Prop),Inv X pins σ H s→wi σ H R →
   wpAny (model X.prog X.w) X.A (eval iter X.env) (fun v s1=>wpAny (model X.prog X.w) X.A (pyIter v) (ZM X pins σ tg R) X.xe s1) X.xe s
theorem D7{M:Model}{o:Obj}{n:String}{vs:Array Value}{Q:Unit→Shared→Prop}(ho:s.heap.get? it=some o)(hc:o.cls=.type n)(hd:o.data=.fields vs)(hn:["enumerate","zip","dict_itemiterator","dict_reverseitemiterator","odict_iterator","itertools.zip_longest","itertools.pairwise"].contains n=false)(hQ:Q () s):wpAny M A (letOwnedTupleGo tg (.ref it) u) Q E s:=by
  unfold letOwnedTupleGo;cases tg<;>first
    |exact cu hQ
    |(cases u<;>first
        |exact cu hQ
        |(refine aT (wpAny_load ho ?_)
          rw[hc,hd];show wpAny M A (if (["enumerate","zip","dict_itemiterator","dict_reverseitemiterator","odict_iterator","itertools.zip_longest","itertools.pairwise"].contains n&&vs[0]?==some (rawInt _))=true then _ else _) Q E s;rw[az (by intro h;rw[hn,Bool.false_and] at h;cases h)];exact cu hQ))
def VF(K:PySem.W.Frag)(a:Addr):It :=
  ⟨fun i H=>∃xs x,eW K H a xs∧xs[i]?=some x,fun i H x H'=>H'=H∧∀xs,eW K H a xs→xs[i]?=some x,fun i H=>∃xs,eW K H a xs∧xs.length≤i⟩
def WG(K:PySem.W.Frag)(a:Addr):It :=
  ⟨fun i H=>∃xs x,gw K H a xs∧xs[i]?=some x,fun i H x H'=>H'=H∧∀xs,gw K H a xs→xs[i]?=some x,fun i H=>∃xs,gw K H a xs∧xs.length≤i⟩
def VG(lo:Int)(n:Nat):It:=⟨fun i _=>i<n,fun i H x H'=>H'=H∧x=.int (lo+i),fun i _=>n≤i⟩
theorem FY{K:PySem.W.Frag}(a it:Addr):Turn P w K tg (VF K a) [it] it (fun i h=>h.IsListIter it a i) where
  mem:=by simp
  obj:=fun i h st b hb=>by
    have e:b=it:=by simpa using hb
    subst e;obtain⟨o,e,c,d⟩:=st;exact⟨o,e,fun v z=>by rw[d] at z;cases z⟩
  keep:=fun i h h' st k=>st.at fun o e=>k it (by simp) o e
  item:=by intro X hP hw hK hc i pins s σ H E I hf st hg;subst hP hw hK;obtain⟨xs,x,hq,hx⟩:=hg;obtain⟨its,rv,p,hz⟩:=I.list hq;obtain⟨u,hu,ru⟩:=rv.get hx;obtain⟨f0,f1,f2,f3,f4,f5⟩:=hf it (by simp);refine wpAny_pyNext_list_item st p.isList (x:=u) (by simpa using hu) fun h' sM sb=>?_;have I1:Inv X pins σ H { s with heap:=h' }:=I.turned (t':=s.toks) (fun b o hb e=>(sb.2 b hb).trans e) f0 f1 f3 f4 f5;obtain⟨o,e,c,d⟩:=id sM;exact⟨u,rfl,D7 (s:={ s with heap:=h' }) e c d (by decide) ⟨x,H,I1,ru,⟨rfl,fun ys hy=>by rw[I.zF hy hq];exact hx⟩,sM,fun b hb=>(hf b hb).1⟩⟩
  done:=by intro X hP hw hK hc i pins s σ H E I hf st hg;subst hP hw hK;obtain⟨xs,hq,hx⟩:=hg;obtain⟨its,rv,p,hz⟩:=I.list hq;obtain⟨f0,f1,f2,f3,f4,f5⟩:=hf it (by simp);have hl:=rv.length;exact wpAny_pyNext_list_end (I.ok.hd hc) st p.isList (by simp;omega) fun h' eb=>⟨rfl,I.turned (t':=s.toks) (fun b o hb e=>eb b o hb e) f0 f1 f3 f4 f5⟩
  self:=fun _ _ _ _ _ st h=>wpAny_pyIter_listiter st h
theorem BJ{K:PySem.W.Frag}(a it:Addr):Turn P w K tg (WG K a) [it] it (fun i h=>h.IsTupleIter it a i) where
  mem:=by simp
  obj:=fun i h st b hb=>by
    have e:b=it:=by simpa using hb
    subst e;obtain⟨o,e,c,d⟩:=st;exact⟨o,e,fun v z=>by rw[d] at z;cases z⟩
  keep:=fun i h h' st k=>st.at fun o e=>k it (by simp) o e
  item:=by intro X hP hw hK hc i pins s σ H E I hf st hg;subst hP hw hK;obtain⟨xs,x,hq,hx⟩:=hg;obtain⟨its,rv,p,hz⟩:=I.tuple hq;obtain⟨u,hu,ru⟩:=rv.get hx;obtain⟨f0,f1,f2,f3,f4,f5⟩:=hf it (by simp);refine wpAny_pyNext_tuple_item st (show s.heap.IsTuple a its.toArray from p) (x:=u) (by simpa using hu) fun h' sM sb=>?_;have I1:Inv X pins σ H { s with heap:=h' }:=I.turned (t':=s.toks) (fun b o hb e=>(sb.2 b hb).trans e) f0 f1 f3 f4 f5;obtain⟨o,e,c,d⟩:=id sM;exact⟨u,rfl,D7 (s:={ s with heap:=h' }) e c d (by decide) ⟨x,H,I1,ru,⟨rfl,fun ys hy=>by rw[I.FX hy hq];exact hx⟩,sM,fun b hb=>(hf b hb).1⟩⟩
  done:=by intro X hP hw hK hc i pins s σ H E I hf st hg;subst hP hw hK;obtain⟨xs,hq,hx⟩:=hg;obtain⟨its,rv,p,hz⟩:=I.tuple hq;obtain⟨f0,f1,f2,f3,f4,f5⟩:=hf it (by simp);have hl:=rv.length;exact wpAny_pyNext_tuple_end (I.ok.hd hc) st (show s.heap.IsTuple a its.toArray from p) (by simp;omega) fun h' eb=>⟨rfl,I.turned (t':=s.toks) (fun b o hb e=>eb b o hb e) f0 f1 f3 f4 f5⟩
  self:=fun _ _ _ _ _ st h=>wpAny_pyIter_tupleiter st h
theorem BK{K:PySem.W.Frag}(it:Addr)(lo:Int)(n:Nat):Turn P w K tg (VG lo n) [it] it (fun i h=>IsRangeIter h it (lo+(i:Nat)*1) ((n:Int)-(i:Nat)) 1) where
  mem:=by simp
  obj:=fun i h st b hb=>by
    have e:b=it:=by simpa using hb
    subst e;exact⟨_,st,fun v z=>by
      have z':Data.fields _=Data.cell v:=z;cases z'⟩
  keep:=fun i h h' st k=>k it (by simp) _ st
  item:=by intro X hP hw hK hc i pins s σ H E I hf st hg;subst hP hw hK;obtain⟨f0,f1,f2,f3,f4,f5⟩:=hf it (by simp);have W:=Walks.range (prog:=X.prog) (w:=X.w) (I.ok.hd hc) it lo 1 n;refine W.item i s _ _ hg st fun v h' tk hv sM kk=>?_;obtain⟨t,rfl⟩:=hv;have I1:Inv X pins σ H { s with heap:=h',toks:=tk }:=I.turned (fun b o hb e=>kk b o (by simpa using hb) e) f0 f1 f3 f4 f5;refine⟨_,rfl,D7 (s:={ s with heap:=h',toks:=tk }) (n:="range_iterator") sM rfl rfl (by decide) ⟨.int (lo+i),H,I1,⟨t,?_⟩,⟨rfl,rfl⟩,sM,fun b hb=>(hf b hb).1⟩⟩;rw[Int.mul_one]
  done:=by intro X hP hw hK hc i pins s σ H E I hf st hg;subst hP hw hK;obtain⟨f0,f1,f2,f3,f4,f5⟩:=hf it (by simp);exact wpAny_pyNext_range_end (I.ok.hd hc) st (by have:n≤i:=hg;omega) fun h' eb=>⟨rfl,I.turned (t':=s.toks) (fun b o hb e=>eb b o hb e) f0 f1 f3 f4 f5⟩
  self:=fun _ _ _ _ _ st h=>wpAny_pyIter_rangeiter st h
section
variable {X:Cx} {tg:Expr}
def Tj(K:PySem.W.Frag)(tl:TE):TI:=fun σ H R=>tl σ H fun x H1=>∃a,x=.ref a∧(∃xs,eW K H1 a xs)∧R (VF K a) H1
def WH(K:PySem.W.Frag)(tl:TE):TI:=fun σ H R=>tl σ H fun x H1=>∃a,x=.ref a∧(∃xs,gw K H1 a xs)∧R (WG K a) H1
theorem D8{l:Expr}{tl:TE}(hl:PE X l tl):PI X tg l (Tj X.K tl):=by
  intro pins s σ H R I h;refine cQ (hl pins s σ H _ I h) fun v s1 ⟨x,H1,I1,r1,q1⟩=>?_;obtain⟨a,e,⟨xs,hq⟩,q⟩:=q1;subst e;cases r1;obtain⟨its,rv,p,hz⟩:=I1.list hq;refine wpAny_pyIter_list p.isList ?_;refine⟨s1.heap.objs.size,[s1.heap.objs.size],_,_,H1,rfl,I1.kept (t':=s1.toks) fun b o e=>eo _ e,FY a _,⟨_,cT _ rfl,rfl,rfl⟩,fun b hb=>?_,q⟩;have e:b=s1.heap.objs.size:=by simpa using hb
  subst e;exact I1.tm (bG _) (I1.bU.fresh (bG _))
theorem Qa{l:Expr}{tl:TE}(hl:PE X l tl):PI X tg l (WH X.K tl):=by
  intro pins s σ H R I h;refine cQ (hl pins s σ H _ I h) fun v s1 ⟨x,H1,I1,r1,q1⟩=>?_;obtain⟨a,e,⟨xs,hq⟩,q⟩:=q1;subst e;cases r1;obtain⟨its,rv,p,hz⟩:=I1.tuple hq;refine wpAny_pyIter_tuple (show s1.heap.IsTuple a its.toArray from p) ?_;refine⟨s1.heap.objs.size,[s1.heap.objs.size],_,_,H1,rfl,I1.kept (t':=s1.toks) fun b o e=>eo _ e,BJ a _,⟨_,cT _ rfl,rfl,rfl⟩,fun b hb=>?_,q⟩;have e:b=s1.heap.objs.size:=by simpa using hb
  subst e;exact I1.tm (bG _) (I1.bU.fresh (bG _))
theorem Ia{σ:St}{H:Hp}{R:It→Hp→Prop}{lo hi:Int}{t u v:Tok}{tk:Nat}(I:Inv X pins σ H s)(h1:-(2^62)≤lo)(h2:lo<2^62)(h3:-(2^62)≤hi)(h4:hi<2^62)(q:R (VG lo (hi-lo).toNat) H):wpAny (model X.prog X.w) X.A (pyIter (.ref s.heap.objs.size)) (ZM X pins σ tg R) E { s with heap:=s.heap.push { cls:=.type "range",data:=.fields #[.int lo t,.int hi u,.int 1 v] },toks:=tk }:=by
  refine wpAny_pyIter_range (IsRange.new ..) (small_one h1 h2 h3 h4) ?_;have I1:Inv X pins σ H { s with heap:=s.heap.push { cls:=.type "range",data:=.fields #[.int lo t,.int hi u,.int 1 v] },toks:=tk }:=I.kept fun b o e=>eo _ e;refine⟨(s.heap.push { cls:=.type "range",data:=.fields #[.int lo t,.int hi u,.int 1 v] }).objs.size,[(s.heap.push { cls:=.type "range",data:=.fields #[.int lo t,.int hi u,.int 1 v] }).objs.size],_,_,H,rfl,
    I1.kept (t':=tk) fun b o e=>eo _ e,BK _ lo (hi-lo).toNat,?_,fun b hb=>?_,q⟩
  · have e1:lo+((0:Nat):Int)*1=lo:=by simp
    have e2:(((hi-lo).toNat:Nat):Int)-((0:Nat):Int)=Builtin.Range.rangeSize lo hi 1:=by rw[rangeSize_one];split<;>omega
    show IsRangeIter _ _ (lo+((0:Nat):Int)*1) ((((hi-lo).toNat:Nat):Int)-((0:Nat):Int)) 1;rw[e1,e2];exact cT _ rfl
  · have e:b=(s.heap.push { cls:=.type "range",data:=.fields #[.int lo t,.int hi u,.int 1 v] }).objs.size:=by simpa using hb
    subst e;exact I1.tm (bG _) (I1.bU.fresh (bG _))
def Tn(ta:TA):TI:=fun σ H R=>ta σ H fun vs H1=>∃j:Int,vs=[.int j]∧-(2^62)≤j∧j<2^62∧R (VG 0 j.toNat) H1
theorem FZ{a:Expr}{ta:TA}{p:Pos}(hg:Gl X "range")(hm:X.mg "range"=none)(ha:PA X [a] ta)(hs:starEach [a] X.env=[(false,eval a X.env)]:=by rfl):PI X tg (.Call (.Name "range" p) [a] [] pos) (Tn ta):=by
  intro pins s σ H R I h;refine Call_ (gU I hg hm boot_range (Bz (cQ (ha pos pins s σ H _ I h) fun us s1 ⟨vs,H1,I1,r1,q1⟩=>?_) hs rfl));obtain⟨j,e,q1,q2,q⟩:=q1;subst e;cases r1 with
  |cons r rr=>cases rr;obtain⟨t,rfl⟩:=r;exact call_range_1 (Ia I1 (by omega) (by omega) q1 q2 (by simpa using q))
def WK(wi:TI)(g:TG)(tb:TS):TS:=fun D σ H=>wi σ H fun J H1=>∃W:Nat→Nat→St→Hp→Prop,(∃m,W 0 m σ H1)∧∀i m σ H,W i m σ H →
  (J.stop i H∧D.nx σ H)∨(J.go i H∧∃N:St→Hp→Prop,(∀σ' H',N σ' H'→∃m',m'<m∧W (i+1) m' σ' H')∧∀x H',J.BI i H x H'→g x σ H' fun σ2 H2=>tb { D with nx:=N,ct:=N,bk:=D.nx } σ2 H2)
def uj(fp:List Addr)(h:Heap):gu:=fp.filterMap fun b=>(h.get? b).map fun o=>(b,o)
theorem kM{o:Obj}(hb:b∈fp)(e:h.get? b=some o):(b,o)∈uj fp h:=List.mem_filterMap.mpr ⟨b,hb,by rw[e];rfl⟩
theorem F5{p:Addr×Obj}(hp:p∈uj fp h):p.1∈fp∧h.get? p.1=some p.2:=by
  obtain⟨b,hb,e⟩:=List.mem_filterMap.mp hp;cases q:h.get? b with
  |none=>rw[q] at e;cases e
  |some o=>rw[q] at e;have e':(b,o)=p:=jG e;subst e';exact⟨hb,q⟩
theorem Inv.pinned{σ:St}{H:Hp}(I:Inv X pins σ H s)(hf:∀b∈fp,fQ X pins H b)(ho:∀b∈fp,∃o,s.heap.get? b=some o∧∀v,o.data≠.cell v):Inv X (pins++uj fp s.heap) σ H s :=
  I.xK fun p hp=>(md.mp hp).elim (fun z=>I.pin p (kx _ z)) fun z=>by obtain⟨hb,e⟩:=F5 z;obtain⟨f0,f1,f2,_⟩:=hf p.1 hb;obtain⟨o,e',d⟩:=ho p.1 hb;rw[e] at e';cases e';exact⟨e,f0,f1,f2,d⟩
theorem Inv.ky{pl:gu}{σ:St}{H:Hp}(I:Inv X (pins++pl) σ H s):Inv X pins σ H s:=I.xK fun p hp=>I.pin p (kx _ (List.mem_append_left _ hp))
theorem Ib{iter:Expr}{wi:TI}{g:TG}{tb:TS}(hp:PassesOwn (model X.prog X.w) X.A X.env X.xe)(hc:X.calm=true)(hi:PI X tg iter wi)(hg:PG X tg g)(hb:xM X body tb)(hs:∀x,foldedSetIterable iter X.env x=pure x:=by intro _;rfl):PS X (.For tg iter body [] pos) (WK wi g tb):=by
  intro pins s σ H D I h;refine wpAny_For (cQ (hi pins s σ H _ I h) fun v s1 h1=>cQ h1 fun VD s2 h2=>?_) hs;obtain⟨it,fp,tn,J,H2,e,I2,T,Tp,f2,W,⟨m0,w0⟩,turn⟩:=h2;subst e
  -- what stays true of the iterator's objects through the loop
  have stat:∀{H':Hp},(∀b∈fp,H' b=none)→∀b∈fp,fQ X pins H' b:=fun hn b hb=>⟨hn b hb,(f2 b hb).2⟩
  refine codeAny_forLoop_any (fun n s'=>∃i σ' H',Inv X pins σ' H' s'∧tn i s'.heap∧(∀b∈fp,H' b=none)∧W i n σ' H') ?_ m0 ⟨0,σ,H2,I2,Tp,fun b hb=>(f2 b hb).1,w0⟩;rintro n s3 ⟨i,σ3,H3,I3,ZN,ZO,w3⟩;rcases turn i n σ3 H3 w3 with⟨stop,qn⟩|⟨go,N,hN,step⟩
  ·refine wpAny_passesOwn hp (cQ (T.done X rfl rfl rfl hc i pins s3 σ3 H3 X.xe I3 (stat ZO) ZN stop) fun r s4 ⟨hr,I4⟩=>?_);subst hr;exact wpAny_execs_nil ⟨σ3,H3,I4,qn⟩
  · refine wpAny_passesOwn hp (cQ (T.item X rfl rfl rfl hc i pins s3 σ3 H3 X.xe I3 (stat ZO) ZN go) fun r s4 ⟨u,hr,h4⟩=>?_);subst hr;refine wpAny_passesOwn hp (cQ h4 fun _ s5 ⟨x,H5,I5,r5,y5,WL,fr5⟩=>?_);have I5':=I5.pinned (stat fr5) (T.obj _ _ WL);refine wpAny_passesOwn hp (cQ (hg _ s5 σ3 H5 x u _ I5' r5 (step x H5 y5)) fun _ s6 ⟨σ6,H6,I6,q6⟩=>?_);refine wpAny_passesOwn hp (cQ (hb _ s6 σ6 H6 _ I6 q6) fun f s7 q7=>?_);have again:∀{σ7:St} {H7:Hp},Inv X (pins++uj fp s5.heap) σ7 H7 s7→N σ7 H7→∃m,m<n∧∃i σ' H',Inv X pins σ' H' s7∧tn i s7.heap∧(∀b∈fp,H' b=none)∧W i m σ' H':=fun {σ7 H7} I7 n7=>by
      obtain⟨m',hm,w7⟩:=hN σ7 H7 n7;refine⟨m',hm,i+1,σ7,H7,I7.ky,T.keep _ _ _ WL fun b hb o e=>(I7.pin (b,o) (kx _ (kx _ (kM hb e)))).1,fun b hb=>?_,w7⟩;obtain⟨o,e,d⟩:=T.obj _ _ WL b hb;exact(I7.pin (b,o) (kx _ (kx _ (kM hb e)))).2.1
    cases f with
    |next=>obtain⟨σ7,H7,I7,n7⟩:=q7;exact again I7 n7
    |cont=>obtain⟨σ7,H7,I7,n7⟩:=q7;exact again I7 n7
    |brk=>obtain⟨σ7,H7,I7,q7⟩:=q7;exact⟨σ7,H7,I7.ky,q7⟩
    |ret v=>obtain⟨x7,σ7,H7,I7,r7,q7⟩:=q7;exact⟨x7,σ7,H7,I7.ky,r7,q7⟩
end
abbrev R2:=V→V→Hp→VK→Prop
def nR(X:Cx)(f:Value→Value→Sem Value)(r:R2):Prop :=
  ∀(pins:gu) (s:Shared) (σ:St) (H:Hp) (x y:V) (v u:Value) (Q:VK),Inv X pins σ H s→RelV x v→RelV y u→r x y H Q →
   wpAny (model X.prog X.w) X.A (f v u) (EP X pins σ Q) X.xe s
def WM(X:Cx)(f:Value→Sem Value)(r:V→Hp→VK→Prop):Prop :=
  ∀(pins:gu) (s:Shared) (σ:St) (H:Hp) (x:V) (v:Value) (Q:VK),Inv X pins σ H s→RelV x v→r x H Q →
   wpAny (model X.prog X.w) X.A (f v) (EP X pins σ Q) X.xe s
def mw(X:Cx)(f:Value)(r:List V→Hp→VK→Prop):Prop :=
  ∀(pins:gu) (s:Shared) (σ:St) (H:Hp) (xs:List V) (us:cv) (Q:VK),Inv X pins σ H s→Vals xs us→r xs H Q →
   wpAny (model X.prog X.w) X.A (call f us) (EP X pins σ Q) X.xe s
def D9(r:R2)(ta tb:TE):TE:=fun σ H Q=>ta σ H fun x H1=>tb σ H1 fun y H2=>r x y H2 Q
def tUn(r:V→Hp→VK→Prop)(ta:TE):TE:=fun σ H Q=>ta σ H fun x H1=>r x H1 Q
def rI(C:Int→Int→Prop)(g:Int→Int→V):R2:=fun x y H Q=>∃i j,x=.int i∧y=.int j∧C i j∧Q (g i j) H
def Ma(g:Int→Int→V):R2:=fun x y H Q=>∃i j,x=.int i∧y=.int j∧Q (g i j) H
def rU(g:Int→V):V→Hp→VK→Prop:=fun x H Q=>∃i,x=.int i∧Q (g i) H
section
variable {X:Cx} {a b c:Expr} {ta tb tc:TE} {pos:Pos}
theorem Qb(ha:PE X a ta)(hb:PE X b tb){σ:St}{H:Hp}{R:V→V→Hp→Prop}(I:Inv X pins σ H s)(h:ta σ H fun x H1=>tb σ H1 fun y H2=>R x y H2)(hf:∀v u s2 x y H2,Inv X pins σ H2 s2→RelV x v→RelV y u→R x y H2→wpAny (model X.prog X.w) X.A (f v u) Q X.xe s2):wpAny (model X.prog X.w) X.A (eval a X.env) (fun v s₁=>wpAny (model X.prog X.w) X.A (eval b X.env) (fun u s₂=>wpAny (model X.prog X.w) X.A (f v u) Q X.xe s₂) X.xe s₁) X.xe s:=by
  refine cQ (ha pins s σ H _ I h) fun v s1 ⟨x,H1,I1,r1,q1⟩=>?_;refine cQ (hb pins s1 σ H1 _ I1 q1) fun u s2 ⟨y,H2,I2,r2,q2⟩=>?_;exact hf v u s2 x y H2 I2 r1 r2 q2
theorem O0{op:Operator}{r:R2}(ho:nR X (binaryOp op) r)(ha:PE X a ta)(hb:PE X b tb):PE X (.BinOp a op b pos) (D9 r ta tb):=by intro pins s σ H Q I h;exact wpAny_BinOp (Qb ha hb I h fun v u s2 x y H2 I2 rx ry q=>ho pins s2 σ H2 x y v u Q I2 rx ry q)
theorem Tq{op:UnaryOp}{r:V→Hp→VK→Prop}(ho:WM X (unaryOp op) r)(ha:PE X a ta):PE X (.UnaryOp op a pos) (tUn r ta):=by intro pins s σ H Q I h;exact UnaryOp_ (cQ (ha pins s σ H _ I h) fun v s1 ⟨x,H1,I1,r1,q1⟩=>ho pins s1 σ H1 x v Q I1 r1 q1)
theorem VH{C:Int→Int→Prop}{g:Int→Int→Int}(rule:∀(i j:Int) (t u:Tok) (s:Shared) (Q:fR) (E:fR),C i j→Q (.int (g i j) s.toks) { s with toks:=s.toks+1 }→wpAny (model X.prog X.w) X.A (f (.int i t) (.int j u)) Q E s):nR X f (rI C fun i j=>.int (g i j)):=by
  intro pins s σ H x y v u Q I rx ry h;obtain⟨i,j,rfl,rfl,hc,q⟩:=h;obtain⟨t,rfl⟩:=rx;obtain⟨t',rfl⟩:=ry;exact rule i j t t' s _ _ hc ⟨.int (g i j),H,I.tok _,⟨_,rfl⟩,q⟩
theorem Tr{g:Int→Int→Int}(rule:∀(i j:Int) (t u:Tok) (s:Shared) (Q:fR) (E:fR),Q (.int (g i j) s.toks) { s with toks:=s.toks+1 }→wpAny (model X.prog X.w) X.A (f (.int i t) (.int j u)) Q E s):nR X f (Ma fun i j=>.int (g i j)):=by
  intro pins s σ H x y v u Q I rx ry h;obtain⟨i,j,rfl,rfl,q⟩:=h;obtain⟨t,rfl⟩:=rx;obtain⟨t',rfl⟩:=ry;exact rule i j t t' s _ _ ⟨.int (g i j),H,I.tok _,⟨_,rfl⟩,q⟩
theorem Qc{g:Int→Int→Bool}(rule:∀(i j:Int) (t u:Tok) (s:Shared) (Q:fR) (E:fR),Q (.bool (g i j)) s→wpAny (model X.prog X.w) X.A (f (.int i t) (.int j u)) Q E s):nR X f (Ma fun i j=>.bl (g i j)):=by
  intro pins s σ H x y v u Q I rx ry h;obtain⟨i,j,rfl,rfl,q⟩:=h;obtain⟨t,rfl⟩:=rx;obtain⟨t',rfl⟩:=ry;exact rule i j t t' s _ _ ⟨.bl (g i j),H,I,rfl,q⟩
def Ts(i j:Int):Prop:=0<j∧j<1073741824
def Tt(i j:Int):Prop:=0≤j∧j≤1000000∧i.natAbs<2^64
def Mb(i j:Int):Prop:=(-(2^64)<i∧i<2^64)∨(-(2^64)<j∧j<2^64)
theorem Mb.ok{i j:Int}(h:Mb i j):IntMulOk i j:=by
  rcases h with⟨h1,h2⟩|⟨h1,h2⟩
  ·exact .of_left (intBits_le_64 h1 h2)
  ·exact .of_right (intBits_le_64 h1 h2)
theorem Qd:nR X (binaryOp .Add) (Ma fun i j=>.int (i+j)):=Tr fun _ _ _ _ _ _ _ q=>add_int q
theorem Qe:nR X (binaryOp .Sub) (Ma fun i j=>.int (i-j)):=Tr fun _ _ _ _ _ _ _ q=>sub_int q
theorem Qf:nR X (binaryOp .Mult) (rI Mb fun i j=>.int (i*j)):=VH fun _ _ _ _ _ _ _ hc q=>mul_int q hc.ok
theorem Md:nR X (binaryOp .FloorDiv) (rI Ts fun i j=>.int (i / j)):=VH fun i j _ _ _ _ _ hc q=>by have h1:(0:Int)<j:=hc.1;have h2:j<1073741824:=hc.2;exact floordiv_int (by omega) (by rw[Int.fdiv_eq_ediv_of_nonneg i (by omega)];exact q) (.inl (PyProof.noPylong_small (by omega)))
theorem Ic:nR X (binaryOp .Mod) (rI (fun _ j=>0<j) fun i j=>.int (i%j)):=VH fun i j _ _ _ _ _ hc q=>by have h1:(0:Int)<j:=hc;exact mod_int' (by omega) (by rw[Int.fmod_eq_emod_of_nonneg i (by omega)];exact q)
theorem Qg:nR X (binaryOp .Pow) (rI Tt fun i j=>.int (i^j.toNat)):=VH fun _ _ _ _ _ _ _ hc q=>pow_int_small hc.1 hc.2.1 hc.2.2 q
theorem unI{f:Value→Sem Value}{g:Int→Int}(rule:∀(i:Int) (t:Tok) (s:Shared) (Q:fR) (E:fR),Q (.int (g i) s.toks) { s with toks:=s.toks+1 }→wpAny (model X.prog X.w) X.A (f (.int i t)) Q E s):WM X f (rU fun i=>.int (g i)):=by
  intro pins s σ H x v Q I rx h;obtain⟨i,rfl,q⟩:=h;obtain⟨t,rfl⟩:=rx;exact rule i t s _ _ ⟨.int (g i),H,I.tok _,⟨_,rfl⟩,q⟩
theorem Qh:WM X (unaryOp .USub) (rU fun i=>.int (-i)):=unI fun _ _ _ _ _ q=>neg_int q
end
def Ie:V→V→Bool
  |.non,.non=>true|.non,.int _=>true|.int _,.non=>true|.non,.bl _=>true|.bl _,.non=>true|.non,.str _=>true|.str _,.non=>true
  |.int _,.int _=>true|.bl _,.bl _=>true|.str _,.str _=>true|.Hs _,.Hs _=>true
  |.int _,.str _=>true|.str _,.int _=>true|.bl _,.str _=>true|.str _,.bl _=>true
  |_,_=>false
def WN:R2:=fun x y H Q=>Ie x y=true∧Q (.bl (decide (x=y))) H
def ZP:R2:=fun x y H Q=>Ie x y=true∧Q (.bl (!decide (x=y))) H
theorem xP{i j:Int}:decide (V.int i=V.int j)=(i==j):=by rw[pG];simp
theorem BL{i j:Bool}:decide (V.bl i=V.bl j)=(i==j):=by rw[pG];simp
theorem xQ{i j:Str}:decide (V.str i=V.str j)=(i==j):=by rw[pG];simp
theorem Ea{i j:Array UInt8}:decide (V.Hs i=V.Hs j)=(i.toList==j.toList):=by rw[pG];cases i;cases j;simp
section
variable {X:Cx} {a b c:Expr} {ta tb tc:TE} {pos:Pos}
theorem bB{σ:St}{H:Hp}{Q:VK}{k k':Bool}(I:Inv X pins σ H s)(q:Q (.bl k) H)(e:k=k'):EP X pins σ Q (.bool k') s:=by subst e;exact⟨.bl k,H,I,rfl,q⟩
theorem Ig:nR X (compareOp .Eq) WN:=by
  intro pins s σ H x y v u Q I rx ry h;obtain⟨hs,q⟩:=h;cases x with
  |non =>
   cases rx;cases y with
   |non=>cases ry;exact PySem.EqNone.eq_none_none (bB I q (by simp))
   |bl j=>cases ry;exact PySem.EqNone.eq_none_bool (bB I q (by simp))
   |int j=>obtain⟨t',rfl⟩:=ry;exact PySem.EqNone.eq_none_int (bB I q (by simp))
   |str j=>obtain⟨t',rfl⟩:=ry;exact PySem.EqNone.eq_none_str (bB I q (by simp))
   |_=>exact absurd (show false=true from hs) gP
  |bl i =>
   cases rx;cases y with
   |non=>cases ry;exact PySem.EqNone.eq_bool_none (bB I q (by simp))
   |bl j=>cases ry;exact eq_bool (bB I q BL)
   |str j=>obtain⟨t',rfl⟩:=ry;exact PySem.EqMixed.eq_bool_str (bB I q (by simp))
   |_=>exact absurd (show false=true from hs) gP
  |int i =>
   obtain⟨t,rfl⟩:=rx;cases y with
   |non=>cases ry;exact PySem.EqNone.eq_int_none (bB I q (by simp))
   |int j=>obtain⟨t',rfl⟩:=ry;exact eq_int (bB I q xP)
   |str j=>obtain⟨t',rfl⟩:=ry;exact PySem.EqMixed.eq_int_str (bB I q (by simp))
   |_=>exact absurd (show false=true from hs) gP
  |str i =>
   obtain⟨t,rfl⟩:=rx;cases y with
   |non=>cases ry;exact PySem.EqNone.eq_str_none (bB I q (by simp))
   |bl j=>cases ry;exact PySem.EqMixed.eq_str_bool (bB I q (by simp))
   |int j=>obtain⟨t',rfl⟩:=ry;exact PySem.EqMixed.eq_str_int (bB I q (by simp))
   |str j=>obtain⟨t',rfl⟩:=ry;exact eq_str (bB I q xQ)
   |_=>exact absurd (show false=true from hs) gP
  |Hs i =>
   obtain⟨t,rfl⟩:=rx;cases y with
   |Hs j=>obtain⟨t',rfl⟩:=ry;exact PySem.W.eq_bytes (bB I q Ea)
   |_=>exact absurd (show false=true from hs) gP
  |_=>cases y<;>exact absurd (show false=true from hs) gP
theorem Tv:nR X (compareOp .NotEq) ZP:=by
  intro pins s σ H x y v u Q I rx ry h;obtain⟨hs,q⟩:=h;cases x with
  |non =>
   cases rx;cases y with
   |non=>cases ry;exact PySem.EqNone.ne_none_none (bB I q (by simp))
   |bl j=>cases ry;exact PySem.EqNone.ne_none_bool (bB I q (by simp))
   |int j=>obtain⟨t',rfl⟩:=ry;exact PySem.EqNone.ne_none_int (bB I q (by simp))
   |str j=>obtain⟨t',rfl⟩:=ry;exact PySem.EqNone.ne_none_str (bB I q (by simp))
   |_=>exact absurd (show false=true from hs) gP
  |bl i =>
   cases rx;cases y with
   |non=>cases ry;exact PySem.EqNone.ne_bool_none (bB I q (by simp))
   |bl j=>cases ry;exact ne_bool (bB I q (fS not BL))
   |str j=>obtain⟨t',rfl⟩:=ry;exact PySem.EqMixed.ne_bool_str (bB I q (by simp))
   |_=>exact absurd (show false=true from hs) gP
  |int i =>
   obtain⟨t,rfl⟩:=rx;cases y with
   |non=>cases ry;exact PySem.EqNone.ne_int_none (bB I q (by simp))
   |int j=>obtain⟨t',rfl⟩:=ry;exact ne_int (bB I q (fS not xP))
   |str j=>obtain⟨t',rfl⟩:=ry;exact PySem.EqMixed.ne_int_str (bB I q (by simp))
   |_=>exact absurd (show false=true from hs) gP
  |str i =>
   obtain⟨t,rfl⟩:=rx;cases y with
   |non=>cases ry;exact PySem.EqNone.ne_str_none (bB I q (by simp))
   |bl j=>cases ry;exact PySem.EqMixed.ne_str_bool (bB I q (by simp))
   |int j=>obtain⟨t',rfl⟩:=ry;exact PySem.EqMixed.ne_str_int (bB I q (by simp))
   |str j=>obtain⟨t',rfl⟩:=ry;exact ne_str (bB I q (fS not xQ))
   |_=>exact absurd (show false=true from hs) gP
  |Hs i =>
   obtain⟨t,rfl⟩:=rx;cases y with
   |Hs j=>obtain⟨t',rfl⟩:=ry;exact PySem.W.ne_bytes (bB I q (fS not Ea))
   |_=>exact absurd (show false=true from hs) gP
  |_=>cases y<;>exact absurd (show false=true from hs) gP
theorem O1:nR X (compareOp .Lt) (Ma fun i j=>.bl (decide (i<j))):=Qc fun _ _ _ _ _ _ _ q=>lt_int q
theorem Tw:nR X (compareOp .Gt) (Ma fun i j=>.bl (decide (j<i))):=Qc fun _ _ _ _ _ _ _ q=>gt_int q
theorem Tx:nR X (compareOp .GtE) (Ma fun i j=>.bl (decide (j≤i))):=Qc fun _ _ _ _ _ _ _ q=>ge_int q
theorem F9:nR X (compareOp .In) (fun x y H Q=>∃i j,x=.str i∧y=.str j∧Q (.bl (!(Builtin.Str.occurrences j i 0 j.length 1).isEmpty)) H):=by intro pins s σ H x y v u Q I rx ry h;obtain⟨i,j,rfl,rfl,q⟩:=h;obtain⟨t,rfl⟩:=rx;obtain⟨t',rfl⟩:=ry;exact in_str (bB I q rfl)
theorem Qi:nR X (compareOp .Is) (fun x y H Q=>y=.non∧Q (.bl (decide (x=.non))) H):=by
  intro pins s σ H x y v u Q I rx ry h;obtain⟨rfl,q⟩:=h;cases ry;refine is_none_gen (bB I q ?_);cases x<;>first
    |(cases rx;rfl)
    |(obtain⟨t,rfl⟩:=rx;rfl)
theorem Mf:nR X (compareOp .IsNot) (fun x y H Q=>y=.non∧Q (.bl (!decide (x=.non))) H):=by
  intro pins s σ H x y v u Q I rx ry h;obtain⟨rfl,q⟩:=h;cases ry;refine isnot_none_gen (bB I q ?_);cases x<;>first
    |(cases rx;rfl)
    |(obtain⟨t,rfl⟩:=rx;rfl)
theorem nR.or{r r':R2}(h:nR X f r)(h':nR X f r'):nR X f (fun x y H Q=>r x y H Q∨r' x y H Q):=by
  intro pins s σ H x y v u Q I rx ry q;rcases q with q|q
  ·exact h pins s σ H x y v u Q I rx ry q
  ·exact h' pins s σ H x y v u Q I rx ry q
theorem j3(b:Expr)(h:op≠.In:=by decide)(h2:op≠.NotIn:=by decide):behindInMarks op b=false:=by
  have e1:(op==CmpOp.In)=false:=by cases op<;>first|rfl|exact absurd rfl h
  have e2:(op==CmpOp.NotIn)=false:=by cases op<;>first|rfl|exact absurd rfl h2
  cases b<;>simp[behindInMarks,e1,e2]
theorem Eb{r:R2}(ho:nR X (compareOp op) r)(ha:PE X a ta)(hb:PE X b tb)(hm:behindInMarks op b=false):PE X (.Compare a [op] [b] pos) (D9 r ta tb):=by intro pins s σ H Q I h;exact wpAny_Compare1 (Qb ha hb I h fun v u s2 x y H2 I2 rx ry q=>ho pins s2 σ H2 x y v u Q I2 rx ry q) hm
def O2(t:TE):TT:=fun σ H Q=>t σ H fun x H'=>∃k,x=.bl k∧Q k H'
theorem Ec{r:R2}(ho:nR X (compareOp op) r)(ha:PE X a ta)(hb:PE X b tb)(hm:behindInMarks op b=false):PT X (.Compare a [op] [b] pos) (O2 (D9 r ta tb)):=by
  intro pins s σ H Q I h;refine wpAny_isTrue_Compare1 (cQ (ha pins s σ H _ I h) fun v s1 ⟨x,H1,I1,r1,q1⟩=>cQ (hb pins s1 σ H1 _ I1 q1) fun u s2 ⟨y,H2,I2,r2,q2⟩ =>
    cQ (ho pins s2 σ H2 x y v u _ I2 r1 r2 q2) fun c s3 ⟨z,H3,I3,r3,k,e,q3⟩=>?_) hm
  subst e;cases r3;exact wpAny_truthy_bool ⟨H3,I3,q3⟩
theorem rE:(sizeLine:Nat)<2^63:=by rw[ig];decide
theorem BM:nR X (binaryOp .Add) (fun x y H Q=>∃i j,x=.str i∧y=.str j∧i.length+j.length≤sizeLine∧Q (.str (i++j)) H):=by intro pins s σ H x y v u Q I rx ry h;obtain⟨i,j,rfl,rfl,hz,q⟩:=h;obtain⟨t,rfl⟩:=rx;obtain⟨t',rfl⟩:=ry;exact add_str (fun t' tk=>⟨.str (i++j),H,I.tok _,⟨_,rfl⟩,q⟩) hz
theorem vals1{x:V}(r:Vals [x] us):∃u,us=[u]∧RelV x u:=by
  cases r with
  |cons r1 r2=>cases r2;exact⟨_,rfl,r1⟩
theorem vals2{x y:V}(r:Vals [x,y] us):∃u w',us=[u,w']∧RelV x u∧RelV y w':=by
  cases r with
  |cons r1 r2 =>
   cases r2 with
   |cons r3 r4=>cases r4;exact⟨_,_,rfl,r1,r3⟩
theorem Ga(hc:X.calm=true):mw X (.builtin "min") (fun xs H Q=>∃i j,xs=[.int i,.int j]∧Q (.int (if j<i then j else i)) H):=by
  intro pins s σ H xs us Q I r h;obtain⟨i,j,rfl,q⟩:=h;obtain⟨u,w',rfl,⟨t,rfl⟩,⟨t',rfl⟩⟩:=vals2 r;refine min_two_ints (I.ok.hd hc) fun h' tk k=>⟨_,H,I.kept k,?_,q⟩
  by_cases hj:j<i
  ·rw[ay hj,ay hj];exact⟨_,rfl⟩
  ·rw[az hj,az hj];exact⟨_,rfl⟩
end
structure BO (h:Heap) (x dx C:Addr) (mA:Str→fu):Prop where
  obj:h.get? x=some (instObj C dx)
  ns:h.Ns1 dx mA
  ne:dx≠x
theorem Gb{dx:Addr}{mA:Str→fu}(n:h.Ns1 dx mA):∃od,h.get? dx=some od∧∀name,lookIn name od=some (mA name):=by
  obtain⟨o,es,ep,ho,hd,hk,_,hm⟩:=n;refine⟨o,ho,fun name=>?_⟩;have e:=hm name;unfold nsFind findBy at e;rw[←Array.find?_toList] at e;unfold lookIn;rw[hd];dsimp only;split
  ·rename_i y q;rw[q] at e;exact fS some e
  · rename_i q;rw[q] at e;have a:es.toList.any (·.refKey)=false:=by
      rw[List.any_eq_false];intro y hy;obtain⟨z,t,Qj⟩:=hk y (Array.mem_toList_iff.mp hy);simp[DictEntry.refKey,Qj]
    have a':¬ es.toList.any (·.refKey)=true:=by rw[a];exact gP
    rw[az a'];exact fS some e
theorem BO.look{x dx:Addr}{mA:Str→fu}(I:BO h x dx C mA):∃od,PySem.W.InstAt h x (instObj C dx) C (some od)∧∀name,lookIn name od=some (mA name) :=
  let ⟨od,ho,hl⟩:=Gb I.ns
  ⟨od,⟨I.obj,rfl,rfl,ho⟩,hl⟩
section
variable {prog:Program} {w:World} {A:Around} {E:fR} {s:Shared} {K:PySem.W.Frag} {x dx C f:Addr} {mA:Str→fu} {name:Str} {v:Value}
theorem get_map{expr:Bool}(X:K.In s.heap)(I:BO s.heap x dx C mA)(hg:plainGet K C name=true)(hh:hasDictIn K C=true)(ha:PySem.W.findIn K (.ref C) name=some none)(hv:mA name=some v)(xR:handedIn v=true)(h:Q v { s with toks:=s.toks+1 }):wpAny (model prog w) A (getAttr (.ref x) name expr) Q E s:=by
  obtain⟨od,J,hl⟩:=I.look;exact PySem.W.get_value X J (plainGet_of hg).1 (PySem.W.findObj_own hh ha rfl (by rw[hl,hv])) xR h
theorem Ih{Q:Value×cv→Shared→Prop}(X:K.In s.heap)(I:BO s.heap x dx C mA)(hg:plainGet K C name=true)(hf:PySem.W.findIn K (.ref C) name=some (some (.ref f)))(ht:isFn K (.ref f)=true)(hv:mA name=none)(h:Q (.ref f,[.ref x]) s):wpAny (model prog w) A (getMethod (.ref x) name pl) Q E s:=by
  obtain⟨od,J,hl⟩:=I.look;exact PySem.W.method_fn X J (plainGet_of hg).1 (plainGet_of hg).2 hf (beq_iff_eq.mp ht) (by show(lookIn name od).map (·.isSome)=some false;rw[hl,hv];rfl) h
theorem Mg{ns:dC}{Q:Unit→Shared→Prop}(X:K.In s.heap)(I:BO s.heap x dx C mA)(hs:PySem.W.findIn K (.ref C) "__setattr__"=some (some (.builtin "object.__setattr__")))(hp:plainOver K C=true)(ht:takerIn K C name=some none)(hh:hasDictIn K C=true)(hw:PySem.Within mA ns)(hsz:ns.length≤sizeLine)(h:∀h',BO h' x dx C (fun y=>if y=name then some v else mA y)→Heap.SameBut dx s.heap h'→Q () { s with heap:=h',toks:=s.toks+2 }):wpAny (model prog w) A (setAttr (.ref x) name v) Q E s:=by
  obtain⟨od,J,hl⟩:=I.look;refine PySem.W.set_plain X J hs (PySem.W.osa_open (s:={ s with toks:=s.toks+1 }) (r:=none) X J hp ht fun b=>?_);obtain⟨cd,hc,Ht⟩:=PySem.W.any_some hh;have hx:s.heap.get? x=some ⟨.ref C,some dx,.plain,#[]⟩:=I.obj;refine aT (cu (aT (aT (wpAny_loadPart hx (aT (PySem.W.Looks.here (s:={ s with toks:=s.toks+1 }) (PySem.W.looks_clsIn X hc) ?_))))));rw[Ht];refine cu (a:=some dx) (aT (cu (aT ?_)));refine wpAny_nsSet1 (s:={ s with toks:=s.toks+1 }) I.ns fun h' VJ ku=>?_;obtain⟨oD,esD,epD,hoD,hdD,hcD⟩:=VJ.count (PySem.Within.cons name v hw);refine aT (wpAny_lookBehind hoD (by rw[hdD];exact pastItsLine_dict (gy hcD (by rw[eT];omega))) ?_);exact cu (h _ ⟨(ku.2 _ (dq I.ne)).trans I.obj,VJ,I.ne⟩ ku)
theorem Ii{R:Result→Shared→Prop}{vs:cv}(X:K.In s.heap)(hm:makesIn K C=true)(hi:PySem.W.findIn K (.ref C) "__init__"=some (some (.ref f)))(hf:typeIn K (.ref f)=some (.type "function"))(h:codeAny (model prog w) (A.under (.builtin "type.__call__" ⟨.ref C::vs,kw⟩)) (.call (.ref f) ⟨.ref (s.heap.objs.size+1)::vs,kw⟩) (PySem.W.InitBack (s.heap.objs.size+1) R) { s with heap:=(s.heap.push emptyDict).push (instObj C s.heap.objs.size) }):codeAny (model prog w) A (.call (.ref C) ⟨vs,kw⟩) R s:=by
  obtain⟨hh,g,d,t,os⟩:=s;exact PySem.W.make_core (PySem.W.makes_of X hm) (PySem.W.looks_findIn X hi) (fun self=>PySem.W.bind_fn X self hf) (.inl rfl) h
end
def lR(f:Str)(v:V):List (Str×V)→List (Str×V)
  |[]=>[(f,v)]
  |(g,x)::r=>if g=f then(g,v)::r else(g,x)::lR f v r
theorem sN(f g:Str)(v:V):∀fs:List (Str×V),(lR f v fs).lookup g=if g=f then some v else fs.lookup g
  |[]=>by
   show List.lookup g [(f,v)]=_;by_cases h:g=f
   ·have hb:(g==f)=true:=beq_iff_eq.mpr h;simp only[List.lookup,hb,ay h]
   ·have hb:(g==f)=false:=beq_eq_false_iff_ne.mpr h;simp only[List.lookup,hb,az h]
  |(k,x)::r=>by
   have ih:=sN f g v r;rw[show lR f v ((k,x)::r)=(if k=f then(k,v)::r else(k,x)::lR f v r) from rfl];by_cases hk:k=f
   · rw[ay hk];by_cases h:g=k
     ·have hb:(g==k)=true:=beq_iff_eq.mpr h;simp only[List.lookup,hb,ay (h.trans hk)]
     ·have hb:(g==k)=false:=beq_eq_false_iff_ne.mpr h;simp only[List.lookup,hb,az (fun e:g=f=>h (e.trans hk.symm))]
   · rw[az hk];by_cases h:g=k
     ·have hb:(g==k)=true:=beq_iff_eq.mpr h;simp only[List.lookup,hb,az (fun e:g=f=>hk (h.symm.trans e))]
     ·have hb:(g==k)=false:=beq_eq_false_iff_ne.mpr h;simp only[List.lookup,hb];exact ih
theorem rF(f:Str)(v:V):∀fs:List (Str×V),f∈(lR f v fs).map (·.1)∧∀g,g∈fs.map (·.1)→g∈(lR f v fs).map (·.1)
  |[]=>⟨by simp[lR],fun g h=>by simp at h⟩
  |(k,x)::r=>by
   obtain⟨i1,i2⟩:=rF f v r;rw[show lR f v ((k,x)::r)=(if k=f then(k,v)::r else(k,x)::lR f v r) from rfl];by_cases hk:k=f
   ·rw[ay hk];subst hk;exact⟨by simp,fun g h=>by simpa using h⟩
   · rw[az hk];refine⟨?_,fun g h=>?_⟩
     ·rw[cB];exact et _ i1
     · rw[cB] at h⊢;rcases dm.mp h with e|e
       ·exact dm.mpr (.inl e)
       ·exact et _ (i2 g e)
theorem sO(f:Str)(v:V):∀fs:List (Str×V),(lR f v fs).length≤fs.length+1
  |[]=>by simp[lR]
  |(k,x)::r=>by
   have ih:=sO f v r;rw[show lR f v ((k,x)::r)=(if k=f then(k,v)::r else(k,x)::lR f v r) from rfl];by_cases hk:k=f
   ·rw[ay hk,eT,eT];omega
   ·rw[az hk,eT,eT];omega
theorem lQ.some_of{v:V}{o:fu}(r:lQ (some v) o):∃u,o=some u∧RelV v u:=by
  cases o with
  |none=>exact(show False from r).elim
  |some u=>exact⟨u,rfl,r⟩
theorem lQ.none_of{o:fu}(r:lQ none o):o=none:=by
  cases o with
  |none=>rfl
  |some u=>exact(show False from r).elim
theorem Gd{v:V}(r:RelV v u):handedIn u=true:=by
  cases v with
  |non=>cases(show u=Value.none from r);rfl
  |bl b=>cases(show u=Value.bool b from r);rfl
  |int i=>obtain⟨t,e⟩:=(show ∃t,u=Value.int i t from r);cases e;rfl
  |str x=>obtain⟨t,e⟩:=(show ∃t,u=Value.str x t from r);cases e;rfl
  |Hs b=>obtain⟨t,e⟩:=(show ∃t,u=Value.bytes b t from r);cases e;rfl
  |PX b=>obtain⟨t,e⟩:=(show ∃t,u=Value.float b t from r);cases e;rfl
  |ref a=>cases(show u=Value.ref a from r);rfl
  |ty n=>cases(show u=Value.type n from r);rfl
section
variable {P:Program} {w:World} {H H':Hp} {h h':Heap} {a C dx:Addr} {fs fs':List (Str×V)}
theorem tP(bU:oA P w H h)(e:H a=some (.ins C dx fs)):∃mA,BO h a dx C mA∧(∀f,lQ (fs.lookup f) (mA f))∧PySem.Within mA (fs.map (·.1))∧fs.length≤1000∧H dx=some (.own a):=by
  obtain⟨d,z,ne,ob,mA,n,r,q⟩:=(show bR P w H h a (.ins C dx fs) from bU a _ e)
  exact⟨mA,⟨ob,n,ne⟩,r,q,z,d⟩
end
structure vW (K:PySem.W.Frag) (C:Addr):Prop where
  pg:plainGet K C Str.empty=true
  hd:hasDictIn K C=true
  po:plainOver K C=true
  sa:PySem.W.findIn K (.ref C) "__setattr__"=some (some (.builtin "object.__setattr__"))
theorem vW.get{K:PySem.W.Frag}(c:vW K C)(f:Str):plainGet K C f=true:=c.pg
def iD(K:PySem.W.Frag)(C:Addr)(f:Str):Prop:=PySem.W.findIn K (.ref C) f=some none
theorem iD.Tz{K:PySem.W.Frag}{f:Str}(n:iD K C f):takerIn K C f=some none:=by unfold takerIn;rw[show PySem.W.findIn K (.ref C) f=some none from n];rfl
structure Con (K:PySem.W.Frag) (C:Addr) (f:Str) (v:V) (u:Value):Prop where
  at_:PySem.W.findIn K (.ref C) f=some (some u)
  rel:RelV v u
  get:PySem.W.specialIn K u "__get__"=some none
  cp:PySem.W.copiedNames.contains f=false
structure Meth (K:PySem.W.Frag) (C:Addr) (m:Str) (f:Addr):Prop where
  at_:PySem.W.findIn K (.ref C) m=some (some (.ref f))
  fn:isFn K (.ref f)=true
  kp:keepIn K (.ref f)=true
section
variable {X:Cx} {pins:gu} {σ:St} {H:Hp} {s:Shared} {a C dx:Addr} {fs:List (Str×V)} {f:Str} {v:V} {A:Around} {E:fR}
theorem BP{b:Bool}(I:Inv X pins σ H s)(e:H a=some (.ins C dx fs))(c:vW X.K C)(n:iD X.K C f)(l:fs.lookup f=some v)(h:∀u s',Inv X pins σ H s'→RelV v u→Q u s'):wpAny (model X.prog X.w) A (getAttr (.ref a) f b) Q E s:=by
  obtain⟨mA,O,r,_,_,_⟩:=tP I.bU e;obtain⟨u,hu,ru⟩:=lQ.some_of (v:=v) (o:=mA f) (by rw[←l];exact r f);exact get_map I.rg O (c.get f) c.hd n hu (Gd ru) (h u _ (I.tok _) ru)
theorem oE{m:Str}{g:Addr}{Q:Value×cv→Shared→Prop}(I:Inv X pins σ H s)(e:H a=some (.ins C dx fs))(c:vW X.K C)(k:Meth X.K C m g)(l:fs.lookup m=none)(h:Q (.ref g,[.ref a]) s):wpAny (model X.prog X.w) A (getMethod (.ref a) m pl) Q E s:=by
  obtain⟨mA,O,r,_,_,_⟩:=tP I.bU e;have hn:mA m=none:=lQ.none_of (by rw[←l];exact r m);exact Ih I.rg O (c.get m) k.at_ k.fn hn h
theorem BQ{y:V}{Q:Unit→Shared→Prop}(I:Inv X pins σ H s)(e:H a=some (.ins C dx fs))(c:vW X.K C)(n:iD X.K C f)(hl:fs.length<1000)(ry:RelV y u)(h:∀s',Inv X pins σ (upd H a (.ins C dx (lR f y fs))) s'→Q () s'):wpAny (model X.prog X.w) A (setAttr (.ref a) f u) Q E s:=by
  obtain⟨mA,O,r,wi,_,ho⟩:=tP I.bU e;have hz:(fs.map (·.1)).length≤sizeLine:=by rw[fG,ig];omega
  refine Mg I.rg O c.sa c.po n.Tz c.hd wi hz fun h' O' sb=>h _ ?_;have hd:∃o,h'.get? dx=some o:=let ⟨o,_,_,e',_⟩:=O'.ns;⟨o,e'⟩
  refine I.write (x:=a) (e:=dx) (by rw[e];exact True.intro) (.inr ho) (fun b q hb z=>(sb.2 b hb).trans z) hd ?_;refine⟨by rw[ai O.ne];exact ho,?_,O.ne,O'.obj,_,O'.ns,fun g=>?_,fun g hg=>?_⟩
  ·have:=sO f y fs;omega
  · show lQ ((lR f y fs).lookup g) (if g=f then some u else mA g);rw[sN];by_cases q:g=f
    ·rw[ay q,ay q];exact ry
    ·rw[az q,az q];exact r g
  · by_cases q:g=f
    ·rw[q];exact(rF f y fs).1
    ·refine(rF f y fs).2 g (wi g fun z=>hg ?_);show(if g=f then some u else mA g)=none;rw[az q];exact z
theorem Inv.made(I:Inv X pins σ H s):Inv X pins σ (upd (upd H s.heap.objs.size (.own (s.heap.objs.size+1))) (s.heap.objs.size+1) (.ins C s.heap.objs.size [])) { s with heap:=(s.heap.push emptyDict).push (instObj C s.heap.objs.size) }:=by
  have e1:(s.heap.push emptyDict).get? s.heap.objs.size=some emptyDict:=cT s.heap rfl;have e2:((s.heap.push emptyDict).push (instObj C s.heap.objs.size)).get? (s.heap.objs.size+1)=some (instObj C s.heap.objs.size):=by have:=cT (s.heap.push emptyDict) (o:=instObj C s.heap.objs.size) rfl;rwa[kK] at this
  have e3:(s.heap.push emptyDict).Ns s.heap.objs.size (fun _=>none):=⟨emptyDict,#[],_,e1,rfl,(fun e he=>absurd he (by simp)),fun _=>rfl⟩
  have I1:=I.laid (a:=s.heap.objs.size) (o:=.own (s.heap.objs.size+1)) (h':=s.heap.push emptyDict) (t':=s.toks) (fun b u q=>eo _ q) (bG _) ⟨_,e1⟩;refine I1.laid (a:=s.heap.objs.size+1) (o:=.ins C s.heap.objs.size []) (t':=s.toks) (fun b u q=>eo _ q) (Nat.le_of_eq (kK _ _)) ?_;have ne:s.heap.objs.size≠s.heap.objs.size+1:=dw (Nat.lt_succ_self _);refine⟨by rw[ai ne,ax],iC _,ne,e2,fun _=>none,(Heap.Ns1.of_empty e3).at fun o q=>eo _ q,fun _=>True.intro,fun y hy=>absurd rfl hy⟩
theorem Mh{prog:Program}{env:Env}{f:Str}(hb:attributeBase e f env (eval e env)=eval e env)(h:wpAny (model prog w) A (eval e env) (fun o s₁=>wpAny (model prog w) A (getAttr o f true) Q E s₁) E s):wpAny (model prog w) A (eval (.Attribute e f pos) env) Q E s :=
  Attribute_any_ h (by rw[arm_eval_Attribute,hb])
end
def TB(K:PySem.W.Frag)(ta:TE)(f:Str):TE:=fun σ H Q=>ta σ H fun x H1=>∃a C dx fs v,x=.ref a∧H1 a=some (.ins C dx fs)∧vW K C∧iD K C f∧fs.lookup f=some v∧Q v H1
def WO(K:PySem.W.Frag)(ta tv:TE)(f:Str):TS:=fun D σ H=>tv σ H fun y H1=>ta σ H1 fun x H2=>∃a C dx fs,x=.ref a∧H2 a=some (.ins C dx fs)∧vW K C∧iD K C f∧fs.length<1000 ∧
  D.nx σ (upd H2 a (.ins C dx (lR f y fs)))
section
variable {X:Cx} {o e value:Expr} {f:Str} {pos pos' uk:Pos} {ta tv:TE}
theorem xS(he:PE X e ta)(hb:attributeBase e f X.env (eval e X.env)=eval e X.env):PE X (.Attribute e f pos) (TB X.K ta f):=by intro pins s σ H Q I h;refine Mh hb (cQ (he pins s σ H _ I h) fun u s1 ⟨x,H1,I1,rx,a,C,dx,fs,v,ex,ea,c,n,l,q⟩=>?_);subst ex;obtain rfl:u=Value.ref a:=rx;exact BP I1 ea c n l fun u' s2 I2 ru=>⟨v,H1,I2,ru,q⟩
theorem Ij(ha:PE X o ta)(hv:PE X value tv)(hs:swapsWith value (some (.Attribute o f pos')) pos.line X.env=pure false):PS X (.Assign [.Attribute o f pos'] value pos) (WO X.K ta tv f):=by intro pins s σ H D I h;refine plainObj_wpAny_Assign_Attribute (cQ (hv pins s σ H _ I h) fun u s1 ⟨y,H1,I1,ry,q⟩=>cQ (ha pins s1 σ H1 _ I1 q) fun ov s2 ⟨x,H2,I2,rx,a,C,dx,fs,ex,ea,c,n,l,q2⟩=>?_) hs;subst ex;obtain rfl:ov=Value.ref a:=rx;exact BQ I2 ea c n l ry fun s3 I3=>⟨σ,_,I3,q2⟩
theorem O3{m:Str}{args:List Expr}{σ:St}{H:Hp}{te:TE}(he:PE X e te)(I:Inv X pins σ H s)(h:te σ H fun x H1=>∃a C dx fs g,x=.ref a∧H1 a=some (.ins C dx fs)∧vW X.K C∧Meth X.K C m g∧fs.lookup m=none∧∀s1,Inv X pins σ H1 s1→wpAny (model X.prog X.w) X.A (callWith pos (.ref g) [.ref a] (backTo pos (starEach args X.env)) (backToKw pos (keywordEach [] X.env))) Q X.xe s1)(ht:eval (.Call (.Attribute e m apos) args [] pos) X.env=(do
      let ov ←eval e X.env
      standAt apos.atName
      let (f,first) ←holding [ov] (getMethod ov m pl)
      callWith pos f first (backTo pos (starEach args X.env)) (backToKw pos (keywordEach [] X.env)))):wpAny (model X.prog X.w) X.A (eval (.Call (.Attribute e m apos) args [] pos) X.env) Q X.xe s:=by
  refine methodCall_KW (pl:=pl) (cQ (he pins s σ H _ I h) fun u s1 hh=>?_) ht;obtain⟨x,H1,I1,rx,a,C,dx,fs,g,ex,ea,c,k,l,q⟩:=hh;subst ex;obtain rfl:u=Value.ref a:=rx;exact oE I1 ea c k l (q s1 I1)
end
section
variable {X:Cx} {pins:gu} {σ:St} {H:Hp} {s:Shared} {A:Around} {E:fR} {Q:fR} {c:Value} {b:Bool}
inductive oF (K:PySem.W.Frag) (H:Hp):V→Value→Prop where
  |non:oF K H .non (.type "NoneType")
  |bl (x:Bool):oF K H (.bl x) (.type "bool")
  |int (i:Int):oF K H (.int i) (.type "int")
  |str (x:Str):oF K H (.str x) (.type "str")
  |PX (x:UInt64):oF K H (.PX x) (.type "float")
  |lst {a:Addr} {xs:List V} (e:H a=some (.lst xs)):oF K H (.ref a) (.type "list")
  |gL {a:Addr} {o:Obj} {xs:List V} (e:H a=some (.gL o (.lst xs))):oF K H (.ref a) (.type "list")
  |kl {a:Addr} {o:Obj} (hk:K.lookup a=some o) (hc:o.cls=.type "list"):oF K H (.ref a) (.type "list")
  |tup {a:Addr} {xs:List V} (e:H a=some (.tup xs)):oF K H (.ref a) (.type "tuple")
  |dK {a:Addr} {ao:List (Key×V)} (e:H a=some (.dK ao)):oF K H (.ref a) (.type "dict")
  |dT {a:Addr} {ao:List (List Key×V)} (e:H a=some (.dT ao)):oF K H (.ref a) (.type "dict")
  |ins {a C dx:Addr} {fs:List (Str×V)} (e:H a=some (.ins C dx fs)) (cl:vW K C) (ha:PySem.W.findIn K (.ref C) "__class__"=some (some (.builtin "object.__class__")))
      (hn:PySem.W.specialIn K (.builtin "object.__class__") "__get__"=some (some (.builtin "getset_descriptor.__get__"))) (VL:PySem.W.takesIn K (.builtin "object.__class__")=some true)
      (hm:PySem.W.mroIn K C (.type "object")=some true):oF K H (.ref a) (.ref C)
theorem Ge{x:V}{t:Value}(I:Inv X pins σ H s)(rx:RelV x u)(ty:oF X.K H x t)(e:kitOne X.K t c=some b)(h:∀tk,Q (.bool b) { s with toks:=tk }):wpAny (model X.prog X.w) A (call (.builtin "isinstance") [u,c]) Q E s:=by
  cases ty with
  |non=>cases(show u=Value.none from rx);exact tf PySem.W.kitx_none I.rg True.intro e (fun z=>nomatch z) h
  |bl y=>cases(show u=Value.bool y from rx);exact tf PySem.W.kitx_bool I.rg True.intro e (fun z=>nomatch z) h
  |int i=>obtain⟨t,q⟩:=(show ∃t,u=Value.int i t from rx);cases q;exact tf PySem.W.kitx_int I.rg True.intro e (fun z=>nomatch z) h
  |str y=>obtain⟨t,q⟩:=(show ∃t,u=Value.str y t from rx);cases q;exact tf PySem.W.kitx_str I.rg True.intro e (fun z=>nomatch z) h
  |PX y=>obtain⟨t,q⟩:=(show ∃t,u=Value.float y t from rx);cases q;exact tf PySem.W.kitx_float I.rg True.intro e (fun z=>nomatch z) h
  |@lst a xs ea =>
   cases(show u=Value.ref a from rx);obtain⟨_,_,n,_,h1⟩:=(show bR X.prog X.w H s.heap a (.lst xs) from I.bU a _ ea)
   exact tf kitx_list I.rg ⟨_,h1,rfl⟩ e (fun z=>nomatch z) h
  |@gL a ob xs ea =>
   cases(show u=Value.ref a from rx);obtain⟨_,_,_,n,_,h1⟩:=(show bR X.prog X.w H s.heap a (.gL ob (.lst xs)) from I.bU a _ ea)
   exact tf kitx_list I.rg ⟨_,h1,rfl⟩ e (fun z=>nomatch z) h
  |@kl a o hk hc=>cases(show u=Value.ref a from rx);exact tf kitx_list I.rg ⟨o,I.rg a o hk,hc⟩ e (fun z=>nomatch z) h
  |@tup a xs ea =>
   cases(show u=Value.ref a from rx);obtain⟨_,_,_,p⟩:=(show bR X.prog X.w H s.heap a (.tup xs) from I.bU a _ ea)
   obtain⟨o,h1,h2,_⟩:=p;exact tf PySem.W.kitx_tuple I.rg ⟨o,h1,h2⟩ e (fun z=>nomatch z) h
  |@dK a ao ea =>
   cases(show u=Value.ref a from rx);obtain⟨_,_,vs,_,p⟩:=(show bR X.prog X.w H s.heap a (.dK ao) from I.bU a _ ea)
   obtain⟨o,es,ep,h1,h2,_⟩:=p;exact tf kitx_dict I.rg ⟨o,h1,h2.1⟩ e (fun z=>nomatch z) h
  |@dT a ao ea =>
   cases(show u=Value.ref a from rx);obtain⟨_,_,xs,_,o,es,ep,h1,h2,_⟩:=(show bR X.prog X.w H s.heap a (.dT ao) from I.bU a _ ea)
   exact tf kitx_dict I.rg ⟨o,h1,h2.1⟩ e (fun z=>nomatch z) h
  |@ins a C dx fs ea cl ha hn VL hm=>cases(show u=Value.ref a from rx);obtain⟨mA,O,_⟩:=tP I.bU ea;obtain⟨od,J,_⟩:=O.look;exact tf (PySem.W.kitx_own (cl.get _) cl.hd ha hn VL hm) I.rg J e (fun z=>nomatch z) h
end
structure cU (k:Nat) (A:Around):Prop where
  hd:A.handled=none
  dp:A.depth+3*k+5<recursionLimit
  un:A.units+16*k+200<cLine
theorem cU.mono(r:cU k A)(h:j≤k):cU j A:=⟨r.hd,by have:=r.dp;omega,by have:=r.un;omega⟩
theorem cU.deeper(r:cU (k+1) A)(env:Env):cU k (A.deeper env) :=
  ⟨r.hd,by have:=r.dp;show A.depth+1+3*k+5<_;omega,by have:=r.un;show A.units+3+16*k+200<_;omega⟩
theorem cU.in1(r:cU (k+1) A):cU k A.in1 :=
  ⟨r.hd,by have:=r.dp;show A.depth+3*k+5<_;omega,by have:=r.un;show A.units+1+16*k+200<_;omega⟩
theorem BR:(A.under (.builtin "type.__call__" ⟨.ref C::us,kw⟩)).depth=A.depth+1:=by
  first|rfl|simp[Around.under,Code.weight,Code.isCreation,Code.isGuard,Code.isCaller,Code.frames,Code.isFrame,guardIds]
theorem BU:(A.under (.builtin "type.__call__" ⟨.ref C::us,kw⟩)).units=A.units+1:=by
  first|rfl|simp[Around.under,Code.cUnits,Code.frames,Code.isFrame]
theorem cU.make(r:cU (k+1) A)(C:Addr)(us:cv)(kw:List (Str×Value)):cU k (A.under (.builtin "type.__call__" ⟨.ref C::us,kw⟩)) :=
  ⟨r.hd,by have:=r.dp;rw[BR];omega,by have:=r.un;rw[BU];omega⟩
theorem cU.depth(r:cU k A):A.depth<recursionLimit:=by have:=r.dp;omega
theorem cU.units(r:cU k A):A.units+64<cLine:=by have:=r.un;omega
def zG:TA:=fun _ H Q=>Q [] H
def jf(ta:TE)(tr:TA):TA:=fun σ H Q=>ta σ H fun x H1=>tr σ H1 fun xs H2=>Q (x::xs) H2
section
variable {X:Cx} {e:Expr} {es:List Expr} {te:TE} {t:TA} {pos:Pos}
theorem cN:PA X [] zG:=fun _ _ _ _ H Q I h=>xG ⟨[],H,I,.nil,h⟩
theorem aW(ha:PE X e te)(hr:PA X es t)(hs:starEach (e::es) X.env=(false,eval e X.env)::starEach es X.env:=by rfl):PA X (e::es) (jf te t):=by intro pos pins s σ H Q I h;rw[hs];show wpAny _ _ (spliced ((false,eval e X.env)::backTo pos (starEach es X.env))) _ _ s;refine v9 (cQ (ha pins s σ H _ I h) fun u s1 ⟨x,H1,I1,r1,q1⟩=>?_);exact cQ (hr pos pins s1 σ H1 _ I1 q1) fun us s2 ⟨xs,H2,I2,r2,q2⟩=>⟨x::xs,H2,I2,.cons r1 r2,q2⟩
def WQ(t:TA):TE:=fun σ H Q=>t σ H fun xs H1=>xs.length≤sizeLine∧∀p,H1 p=none→Q (.ref p) (upd H1 p (.tup xs))
def TC(t:TA):TE:=fun σ H Q=>t σ H fun xs H1=>xs.length≤sizeLine∧∀p,H1 p=none→Q (.ref p) (upd H1 p (.lst xs))
theorem Qk{x1}(h:PA X es t):PE X (.Tuple es x1 pos) (WQ t):=by intro pins s σ H Q I hq;refine wpAny_Tuple_spliced (cQ (h pos pins s σ H _ I hq) fun us s1 ⟨xs,H1,I1,r,z,q⟩=>⟨by rw[←r.length];exact z,?_⟩);have hf:H1 s1.heap.objs.size=none:=I1.bU.fresh (bG _);refine⟨.ref s1.heap.objs.size,upd H1 s1.heap.objs.size (.tup xs),I1.laid (t':=s1.toks) (fun b u e=>eo _ e) (bG _) ?_,rfl,q _ hf⟩;exact⟨z,us,r,⟨_,cT _ rfl,rfl,_,rfl⟩⟩
theorem xT(h:PA X es t):PE X (.List es pos) (TC t):=by intro pins s σ H Q I hq;refine wpAny_List_spliced (cQ (h pos pins s σ H _ I hq) fun us s1 ⟨xs,H1,I1,r,z,q⟩=>⟨by rw[←r.length];exact z,?_⟩);have hf:H1 s1.heap.objs.size=none:=I1.bU.fresh (bG _);refine⟨.ref s1.heap.objs.size,upd H1 s1.heap.objs.size (.lst xs),I1.laid (t':=s1.toks) (fun b u e=>eo _ e) (bG _) ?_,rfl,q _ hf⟩;exact⟨z,us,0,r,cT _ rfl⟩
end
abbrev Sp:=List V→Hp→VK→XK→Prop
abbrev Hv:=List Env→Hp→Shared→XK→fR
structure zH (P:Program) (w:World) (K:PySem.W.Frag) (mg:Str→fu) (base:Heap) (A:Around) (outer:List Env) (s:Shared) (H:Hp):Prop where
  frames:A.frames=some outer
  mod:Mod K mg base
  bs:∀b o,base.get? b=some o→s.heap.get? b=some o∧H b=none
  L4:base.objs.size≤s.heap.objs.size
  rC:s.heap.FunFrames base outer
  OW:∀b∈FV outer,H b=none
  bU:oA P w H s.heap
  bare:AllBare s.gens
def CE(outer:List Env)(P:Program)(w:World)(H:Hp)(s:Shared)(Q:VK)(u:Value)(s':Shared):Prop :=
  ∃v H',s'.os=s.os∧AllBare s'.gens∧Un (FV outer) [] H H' s.heap s'.heap∧oA P w H' s'.heap∧RelV v u∧Q v H'
def CR(CX:Hv)(outer:List Env)(P:Program)(w:World)(H:Hp)(s:Shared)(Q:VK)(E:XK)(r:Result)(s':Shared):Prop :=
  match r with
  |.ok (.ret u)=>CE outer P w H s Q u s'
  |.ok _=>False
  |.error e=>CX outer H s E e s'
structure cD (P:Program) (w:World) (K:PySem.W.Frag) (mg:Str→fu) (base:Heap) (CX:Hv) (k:Nat) (f:Addr) (fd:FuncData) (ps:dC) (sp:Sp):Prop where
  len:∀vs H Q E,sp vs H Q E→vs.length=ps.length
  run:∀(A:Around) (outer:List Env) (s:Shared) (H:Hp) (args:Args) (us:cv) (vs:List V) (Q:VK) (E:XK),cU k A→zH P w K mg base A outer s H→BindsTo s fd args (ps.zip us)→Vals vs us→sp vs H Q E →
    codeAny (model P w) A (.call (.ref f) args) (CR CX outer P w H s Q E) s
theorem zH.make{K:PySem.W.Frag}{base:Heap}{outer:List Env}{H:Hp}(e:zH P w K mg base A outer s H)(C:Addr)(us:cv)(kw:List (Str×Value)):zH P w K mg base (A.under (.builtin "type.__call__" ⟨.ref C::us,kw⟩)) outer s H:=⟨by first|exact e.frames|(simpa[Around.under,Code.envs,Code.isFrame,pushEnvs] using e.frames),e.mod,e.bs,e.L4,e.rC,e.OW,e.bU,e.bare⟩
section
variable {X:Cx} {pins:gu} {σ:St} {H:Hp} {s s':Shared}
theorem Inv.Mi(I:Inv X pins σ H s):zH X.prog X.w X.K X.mg X.base X.A X.stack s H :=
  ⟨I.ok.frames,I.ok.mod,I.bs,gy I.ok.L4 I.sz,I.stack,I.D3,I.bU,I.bare⟩
theorem Inv.after{Q:VK}(I:Inv X pins σ H s)(h:CE X.stack X.prog X.w H s Q u s'):EP X pins σ Q u s':=by obtain⟨v,H',os,bare,un,bU,r,q⟩:=h;obtain⟨hh,g,d,t,os'⟩:=s';obtain rfl:os'=s.os:=os;exact⟨v,H',I.call (h':=hh) (g':=g) (d':=d) (t':=t) (ch:=[]) un bU bare (fun b z=>absurd z (by simp)),r,q⟩
end
def um(sp:Sp)(dvs:List V)(E:XK)(t:TA):TE:=fun σ H Q=>t σ H fun vs H1=>sp (vs++dvs) H1 Q E
def Ik(C:Addr)(m:Str)(sp:Sp)(dvs:List V)(E:XK)(ta:TE)(t:TA):TE:=fun σ H Q=>ta σ H fun x H1=>∃a dx fs,x=.ref a∧H1 a=some (.ins C dx fs)∧fs.lookup m=none ∧
  t σ H1 fun vs H2=>sp (x::(vs++dvs)) H2 Q E
def zI(C:Addr)(sp:Sp)(dvs:List V)(E:XK)(t:TA):TE:=fun σ H Q=>t σ H fun vs H1=>∀x dx,H1 x=none→H1 dx=none→dx≠x →
  sp (.ref x::(vs++dvs)) (upd (upd H1 dx (.own x)) x (.ins C dx [])) (fun v H2=>v=.non∧Q (.ref x) H2) E
def Binds(K:PySem.W.Frag)(fd:FuncData)(ps:dC)(ds:cv):Prop :=
  ∀(s:Shared) (us:cv),K.In s.heap→(us++ds).length=ps.length→BindsTo s fd ⟨us,[]⟩ (ps.zip (us++ds))
theorem Binds.all{K:PySem.W.Frag}{ps:dC}(h:∀us:cv,us.length=ps.length→bindArgs fd ⟨us,[]⟩=pure (ps.zip us)):Binds K fd ps []:=fun s us _ hl=>by rw[xH] at hl⊢;exact .of_eq (h us hl)
def Passes(CX:Hv)(X:Cx)(E:XK):Prop:=∀(pins:gu) (σ:St) (H:Hp) (s:Shared) (e:Value) (s':Shared),Inv X pins σ H s→CX X.stack H s E e s'→X.xe e s'
section
variable {X:Cx} {CX:Hv} {k:Nat} {f C:Addr} {fd:FuncData} {ps:dC} {sp:Sp} {dvs:List V} {ds:cv} {E:XK} {x m:Str} {p pos apos:Pos} {e o:Expr} {es:List Expr} {ta:TE} {t:TA}
theorem BV{σ:St}{H:Hp}{Q:VK}{vs:List V}(F:cD X.prog X.w X.K X.mg X.base CX k f fd ps sp)(hr:cU k X.A)(hb:Binds X.K fd ps ds)(hd:Vals dvs ds)(hx:Passes CX X E)(I:Inv X pins σ H s)(r:Vals vs us)(h:sp (vs++dvs) H Q E):wpAny (model X.prog X.w) X.A (call (.ref f) us) (EP X pins σ Q) X.xe s:=by
  have r2:Vals (vs++dvs) (us++ds):=r.append hd;have hl:(us++ds).length=ps.length:=by rw[←r2.length];exact F.len _ _ _ _ h
  refine wpAny_call (codeAny_mono (F.run X.A X.stack s H ⟨us,[]⟩ (us++ds) (vs++dvs) Q E hr I.Mi (hb s us I.rg hl) r2 h) fun r s' hq=>?_);cases r with
  |error e=>exact hx pins σ H s e s' I hq
  |ok fl =>
   cases fl with
   |ret u=>exact I.after hq
   |next=>exact False.elim hq
   |brk=>exact False.elim hq
   |cont=>exact False.elim hq
theorem pN(F:cD X.prog X.w X.K X.mg X.base CX k f fd ps sp)(hr:cU k X.A)(hg:Gl X x)(hm:X.mg x=some (.ref f))(hk:keepIn X.K (.ref f)=true)(hb:Binds X.K fd ps ds)(hd:Vals dvs ds)(hx:Passes CX X E)(ha:PA X (e::es) t)(iE:(x==("__debug__":Str))=false:=by decide)(he:starEach (e::es) X.env=(false,eval e X.env)::starEach es X.env:=by rfl)(m8:(backTo pos (starEach es X.env)).any (·.1)=false:=by rfl):PE X (.Call (.Name x p) (e::es) [] pos) (um sp dvs E t):=by
  intro pins s σ H Q I h;refine sZ (pM I hg hm ?_ iE);refine callWith_K (h₀:=X.base) I.ok.mod.S9 hk (cQ (ha pos pins s σ H _ I h) fun us s1 ⟨vs,H1,I1,r,q⟩=>⟨I1.rg,?_⟩) he m8;exact BV F hr hb hd hx I1 r q
theorem Mj(he:PE X o ta)(c:vW X.K C)(hm:Meth X.K C m f)(F:cD X.prog X.w X.K X.mg X.base CX k f fd ps sp)(hr:cU k X.A)(hb:Binds X.K fd ps ds)(hd:Vals dvs ds)(hx:Passes CX X E)(ha:PA X (e::es) t)(BH:starEach (e::es) X.env=(false,eval e X.env)::starEach es X.env:=by rfl)(m8:(backTo pos (starEach es X.env)).any (·.1)=false:=by rfl)(ht:eval (.Call (.Attribute o m apos) (e::es) [] pos) X.env=(do
      let ov ←eval o X.env
      standAt apos.atName
      let (f,first) ←holding [ov] (getMethod ov m pl)
      callWith pos f first (backTo pos (starEach (e::es) X.env)) (backToKw pos (keywordEach [] X.env))):=by rfl):PE X (.Call (.Attribute o m apos) (e::es) [] pos) (Ik C m sp dvs E ta t):=by
  intro pins s σ H Q I h;refine methodCall_KW (pl:=pl) (cQ (he pins s σ H _ I h) fun u s1 ⟨x,H1,I1,rx,a,dx,fs,ex,ea,l,q⟩=>?_) ht;subst ex;obtain rfl:u=Value.ref a:=rx;refine oE I1 ea c hm l ?_;refine callWith_K (first:=[.ref a]) (h₀:=X.base) I.ok.mod.S9 hm.kp (cQ (ha pos pins s1 σ H1 _ I1 q) fun us s2 ⟨vs,H2,I2,r,q2⟩=>⟨I2.rg,?_⟩) BH m8;exact BV (us:=.ref a::us) (vs:=.ref a::vs) F hr hb hd hx I2 (.cons rfl r) q2
theorem zJ(he:PE X o ta)(c:vW X.K C)(hm:Meth X.K C m f)(F:cD X.prog X.w X.K X.mg X.base CX k f fd ps sp)(hr:cU k X.A)(hb:Binds X.K fd ps ds)(hd:Vals dvs ds)(hx:Passes CX X E)(ht:eval (.Call (.Attribute o m apos) [] [] pos) X.env=(do
      let ov ←eval o X.env
      standAt apos.atName
      let (f,first) ←holding [ov] (getMethod ov m pl)
      callWith pos f first (backTo pos (starEach [] X.env)) (backToKw pos (keywordEach [] X.env))):=by rfl):PE X (.Call (.Attribute o m apos) [] [] pos) (Ik C m sp dvs E ta zG):=by
  intro pins s σ H Q I h;refine methodCall_KW (pl:=pl) (cQ (he pins s σ H _ I h) fun u s1 ⟨x,H1,I1,rx,a,dx,fs,ex,ea,l,q⟩=>?_) ht;subst ex;obtain rfl:u=Value.ref a:=rx;refine oE I1 ea c hm l ?_;exact PySem.W.callWith_K0 (first:=[.ref a]) I1.rg hm.kp (BV (us:=[.ref a]) (vs:=[.ref a]) F hr hb hd hx I1 (.cons rfl .nil) q)
structure Mk (K:PySem.W.Frag) (C f:Addr):Prop where
  makes:makesIn K C=true
  init:PySem.W.findIn K (.ref C) "__init__"=some (some (.ref f))
  fn:isFn K (.ref f)=true
  kp:keepIn K (.ref C)=true
theorem Il{σ:St}{H:Hp}{Q:VK}{vs:List V}(M:Mk X.K C f)(F:cD X.prog X.w X.K X.mg X.base CX k f fd ps sp)(hr:cU (k+1) X.A)(hb:Binds X.K fd ps ds)(hd:Vals dvs ds)(hx:Passes CX X E)(I:Inv X pins σ H s)(r:Vals vs us)(h:∀x dx,H x=none→H dx=none→dx≠x→sp (.ref x::(vs++dvs)) (upd (upd H dx (.own x)) x (.ins C dx [])) (fun v H2=>v=.non∧Q (.ref x) H2) E):wpAny (model X.prog X.w) X.A (call (.ref C) us) (EP X pins σ Q) X.xe s:=by
  have hq:=h (s.heap.objs.size+1) s.heap.objs.size (I.bU.fresh (Nat.le_succ _)) (I.bU.fresh (bG _)) (dw (Nat.lt_succ_self _));have I2:=Inv.made (C:=C) I;have r2:Vals (V.ref (s.heap.objs.size+1)::(vs++dvs)) (Value.ref (s.heap.objs.size+1)::(us++ds)):=.cons rfl (r.append hd);have hl:(Value.ref (s.heap.objs.size+1)::us++ds).length=ps.length:=by have e:=r2.length;rw[F.len _ _ _ _ hq] at e;exact e.symm
  refine wpAny_call (Ii (f:=f) I.rg M.makes M.init (beq_iff_eq.mp M.fn) (codeAny_mono (F.run _ X.stack _ _ ⟨Value.ref (s.heap.objs.size+1)::us,[]⟩ (Value.ref (s.heap.objs.size+1)::(us++ds)) _ _ E (hr.make C us [])
    (I2.Mi.make C us []) (hb _ (Value.ref (s.heap.objs.size+1)::us) I2.rg hl) r2 hq) fun r s' Ed=>?_))
  cases r with
  |error e=>exact hx pins σ _ _ e s' I2 Ed
  |ok fl =>
   cases fl with
   |ret u=>obtain⟨v,H',I3,rv,ev,q3⟩:=I2.after Ed;subst ev;exact⟨rv,⟨V.ref (s.heap.objs.size+1),H',I3,rfl,q3⟩⟩
   |next=>exact False.elim Ed
   |brk=>exact False.elim Ed
   |cont=>exact False.elim Ed
theorem Ee(M:Mk X.K C f)(F:cD X.prog X.w X.K X.mg X.base CX k f fd ps sp)(hr:cU (k+1) X.A)(hg:Gl X x)(hm:X.mg x=some (.ref C))(hb:Binds X.K fd ps ds)(hd:Vals dvs ds)(hx:Passes CX X E)(ha:PA X (e::es) t)(iE:(x==("__debug__":Str))=false:=by decide)(he:starEach (e::es) X.env=(false,eval e X.env)::starEach es X.env:=by rfl)(m8:(backTo pos (starEach es X.env)).any (·.1)=false:=by rfl):PE X (.Call (.Name x p) (e::es) [] pos) (zI C sp dvs E t):=by
  intro pins s σ H Q I h;refine sZ (pM I hg hm ?_ iE);refine callWith_K (h₀:=X.base) I.ok.mod.S9 M.kp (cQ (ha pos pins s σ H _ I h) fun us s1 ⟨vs,H1,I1,r,q⟩=>⟨I1.rg,?_⟩) he m8;exact Il M F hr hb hd hx I1 r q
end
section
variable {X:Cx} {CX:Hv} {k:Nat} {f C:Addr} {fd:FuncData} {ps ks:dC} {sp:Sp} {E:XK} {x m:Str} {p pos apos abr:Pos} {e o:Expr} {es:List Expr} {kws:List Keyword} {te ta:TE} {t tk:TA} {nm:Option Str}
structure WR (K:PySem.W.Frag) (fd:FuncData) (ps ks:dC) (g:cv→cv→cv) (gV:List V→List V→List V):Prop where
  to:∀(s:Shared) (us ws:cv),K.In s.heap→(g us ws).length=ps.length→BindsTo s fd ⟨us,ks.zip ws⟩ (ps.zip (g us ws))
  rel:∀{vs:List V} {us:cv} {zs:List V} {ws:cv},Vals vs us→Vals zs ws→Vals (gV vs zs) (g us ws)
variable {g:cv→cv→cv} {gV:List V→List V→List V}
end
structure bq (N P:dC) (sc:Scope):Prop where
  kind:sc.kind=.function
  co:sc.isCoroutine=false
  gen:sc.isGenerator=false
  nd:N.Nodup
  pre:N.take P.length=P
  par:∀x∈P,sc.names.lookup x=some .local∨sc.names.lookup x=some .cell
  Ql:∀y∈sc.names,y.2≠.free
theorem wV{kindOf:Str→Option NameKind}{x:Str}:∀{binds:List (Str×Value)} {m:Str→fu},(∀v,(x,v)∉binds)→bindL kindOf binds m x=m x
  |[],_,_=>rfl
  |(n,v)::r,m,h=>by
   unfold bindL;rw[wV fun w hw=>h w (et _ hw)];split
   · have:x≠n:=by rintro rfl;exact h v eR
     simp[this]
   ·rfl
theorem wW{kindOf:Str→Option NameKind}{x:Str}:∀{binds:List (Str×Value)} {m:Str→fu},(∀v,(x,v)∉binds)→bindC kindOf binds m x=m x
  |[],_,_=>rfl
  |(n,v)::r,m,h=>by
   unfold bindC;rw[wW fun w hw=>h w (et _ hw)];split
   ·rfl
   · have:x≠n:=by rintro rfl;exact h v eR
     simp[this]
theorem wX{kindOf:Str→Option NameKind}{x:Str}{v:Value}:∀{P:dC} {vs:cv} {i:Nat} {m:Str→fu},P.Nodup→P[i]?=some x→vs[i]?=some v→kindOf x=some .local→bindL kindOf (P.zip vs) m x=some v
  |[],_,_,_,_,h,_,_=>by simp at h
  |_::_,[],_,_,_,_,h,_=>by simp at h
  |p::P,w::vs,0,m,nd,h1,h2,hk=>by simp at h1 h2;subst h1;subst h2;show bindL kindOf ((p,w)::P.zip vs) m p=_;unfold bindL;rw[wV fun v hv=>(List.nodup_cons.mp nd).1 (List.of_mem_zip hv).1,ay hk];simp
  |p::P,w::vs,i+1,m,nd,h1,h2,hk=>by show bindL kindOf ((p,w)::P.zip vs) m x=_;unfold bindL;exact wX (i:=i) (List.nodup_cons.mp nd).2 (by simpa using h1) (by simpa using h2) hk
theorem wY{kindOf:Str→Option NameKind}{x:Str}{v:Value}:∀{P:dC} {vs:cv} {i:Nat} {m:Str→fu},P.Nodup→P[i]?=some x→vs[i]?=some v→kindOf x≠some .local→bindC kindOf (P.zip vs) m x=some v
  |[],_,_,_,_,h,_,_=>by simp at h
  |_::_,[],_,_,_,_,h,_=>by simp at h
  |p::P,w::vs,0,m,nd,h1,h2,hk=>by simp at h1 h2;subst h1;subst h2;show bindC kindOf ((p,w)::P.zip vs) m p=_;unfold bindC;rw[wW fun v hv=>(List.nodup_cons.mp nd).1 (List.of_mem_zip hv).1,az hk];simp
  |p::P,w::vs,i+1,m,nd,h1,h2,hk=>by show bindC kindOf ((p,w)::P.zip vs) m x=_;unfold bindC;exact wY (i:=i) (List.nodup_cons.mp nd).2 (by simpa using h1) (by simpa using h2) hk
def start(N:dC)(vs:List V):St:=vs.map some++List.replicate (N.length-vs.length) none
def wg(CX:Hv)(P:Program)(w:World)(K:PySem.W.Frag)(mg:Str→fu)(base:Heap)(N:dC)(qual:Str)(scope:Scope)(f:Addr)(cd:Value)(A:Around)(outer:List Env)(s:Shared)(H:Hp)(E:XK):Cx where
  prog:=P
  w:=w
  K:=K
  mg:=mg
  base:=base
  A:=A.deeper (envOfC qual scope s.heap.objs.size f cd)
  N:=N
  s₀:=s
  H₀:=H
  env:=envOfC qual scope s.heap.objs.size f cd
  outer:=outer
  stack:=envOfC qual scope s.heap.objs.size f cd::outer
  ex:=[]
  calm:=true
  fn:=fun _=>true
  pn:=[]
  xe:=fun e s'=>wpAny (model P w) (A.deeper (envOfC qual scope s.heap.objs.size f cd)) (leaving (envOfC qual scope s.heap.objs.size f cd) e) (fun _ tq=>CX outer H s E e tq) (fun e' tq=>CX outer H s E e' tq) s'
theorem zK{sc:Scope}(h:sc.names.lookup x=some .cell):∃c,(cellsFrom n sc.names []).lookup x=some c:=by have q:=cellsFrom_some sc.names n [] (.inl h);exact Option.isSome_iff_exists.mp q
theorem Gf{CX:Hv}{K:PySem.W.Frag}{base:Heap}{ps:dC}{scope:Scope}{f:Addr}{cd:Value}{outer:List Env}{s1:Shared}{H:Hp}{E:XK}{vs:List V}(S:bq N ps scope)(hd:A.handled=none)(e0:zH P w K mg base A outer s H)(hl:vs.length=ps.length)(r:Vals vs us)(x:InCallC s s.heap.objs.size (bindL (envOfC qual scope s.heap.objs.size f cd).kindOf (ps.zip us) fun _=>none) (cellsFrom (s.heap.objs.size+1) scope.names []) (bindC (envOfC qual scope s.heap.objs.size f cd).kindOf (ps.zip us) fun _=>none) s1):Inv (wg CX P w K mg base N qual scope f cd A outer s H E) [] (start N vs) H s1:=by
  have m8:ps.length≤N.length:=by have:=fS List.length S.pre;rw[List.length_take] at this;omega
  obtain⟨h1,tk,rfl,hk⟩:=x.done;have TH:∀b:Addr,b∉(wg CX P w K mg base N qual scope f cd A outer s H E).ex:=fun b z=>absurd (show b∈([]:List Addr) from z) (by simp);refine⟨⟨e0.mod,S.kind,rfl,rfl,bG _,fun y z c h1 h2=>?_,fun y hy=>?_,fun y c _ h=>?_,fun _=>hd,Around.frames_deeper e0.frames,.inr ⟨rfl,rfl⟩,fun b z=>absurd z (TH b),e0.bs,e0.L4,fun b _ _=>TH b,fun b z=>absurd z (TH b),e0.rC,e0.OW⟩,
    rfl,e0.bare,Un.kept hk,⟨_,x.toInCall.ns,fun i y v h1 h2 h3=>?_⟩,fun y c h=>⟨_,x.cell y c h⟩,e0.bU.fresh (bG _),fun y c h=>?_,fun p hp=>absurd (show p∈([]:gu) from hp) (by simp),e0.bU.kept hk,?_⟩
  ·exact name_of_addr x.apart (PySem.mem_of_lookup h1) (PySem.mem_of_lookup h2)
  · have hy:scope.names.lookup y=some .cell∨scope.names.lookup y=some .free:=hy;rcases hy with hy|hy
    ·exact zK hy
    ·exact absurd rfl (S.Ql _ (PySem.mem_of_lookup hy))
  ·exact ml (x.above y c (PySem.mem_of_lookup h))
  · have hi:i<vs.length:=by
      unfold start at h2;by_cases hi:i<vs.length
      ·exact hi
      ·rw[xB (by simpa using hi)] at h2;rw[List.getElem?_replicate] at h2;split at h2<;>cases h2
    have ha:vs[i]?=some v:=by
      unfold start at h2;rw[xC (by simpa using hi),eS] at h2;cases e:vs[i]? with
      |none=>rw[e] at h2;cases h2
      |some a=>rw[e] at h2;cases h2;rfl
    obtain⟨u,hu,rv⟩:=r.get ha;have hp:ps[i]?=some y:=by rw[←S.pre,List.getElem?_take_of_lt (by omega)];exact h1
    have ZQ:ps.Nodup:=by rw[←S.pre];exact S.nd.sublist (List.take_sublist _ _)
    refine⟨u,rv,?_⟩;rcases S.par y (zx hp) with k|k
    ·exact .inl ⟨k,wX ZQ hp hu k⟩
    ·obtain⟨c,e⟩:=zK (n:=s.heap.objs.size+1) k;refine .inr ⟨.inl k,c,e,?_⟩;have q:=x.cell y c e;rw[wY ZQ hp hu (by show scope.names.lookup y≠_;rw[k];decide)] at q;exact q
  ·exact e0.bU.fresh (ml (x.above y c (PySem.mem_of_lookup h)))
  ·unfold start;show _=N.length;rw[lZ,fG,List.length_replicate];omega
theorem Im{CX:Hv}{K:PySem.W.Frag}{base:Heap}{f:Addr}{name:Str}{params:Arguments}{scope:Scope}{dV kV doc pm di ct oc:Value}{ps:dC}{sp:Sp}(lk:K.lookup f=some ⟨oc,od,.func (fnOf name qual params body scope dV kV doc pm an di ct),wc⟩)(dR:codeIn K di qual=true)(S:bq N ps scope)(len:∀vs H Q E,sp vs H Q E→vs.length=ps.length)(Io:∀(A:Around) (outer:List Env) (s:Shared) (H:Hp) (vs:List V) (Q:VK) (E:XK),cU k (A.deeper (envOfC qual scope s.heap.objs.size f di))→sp vs H Q E→∃t,xM (wg CX P w K mg base N qual scope f di A outer s H E) body t∧t { nx:=fun _ H'=>Q .non H',rt:=Q } (start N vs) H):cD P w K mg base CX (k+1) f (fnOf name qual params body scope dV kV doc pm an di ct) ps sp:=by
  refine⟨len,fun A outer s H args us vs Q E hr e0 hb r BW=>?_⟩;have hl:=len _ _ _ _ BW;have KX:K.In s.heap:=e0.mod.S9.keeps fun b o e=>(e0.bs b o e).1;have lim:s.heap.NoLimit:=e0.mod.nolimit.keeps fun b o e=>(e0.bs b o e).1;have TJ:∀y∈ps.zip us,scope.names.lookup y.1=some .local∨(scope.names.lookup y.1=some .cell∧((cellsFrom (s.heap.objs.size+1) scope.names []).lookup y.1).isSome=true):=fun⟨n,v⟩ hy=>by
    rcases S.par n (List.of_mem_zip hy).1 with q|q
    ·exact .inl q
    ·exact .inr ⟨q,cellsFrom_some _ _ _ (.inl q)⟩
  refine codeAny_call_function hr.depth (KX _ _ lk) rfl S.co S.gen rfl (PySem.W.codeRec_of KX dR) (hb _ _ _ _ ?_);refine wpAny_newFunctionEnv_cells S.kind TJ fun env he s1 x=>?_;subst he;refine⟨lim.keeps x.toInCall.keep,codeAny_func ?_⟩;obtain⟨t,ht,hq⟩:=Io A outer s H vs Q E (hr.deeper _) BW;have I:Inv (wg CX P w K mg base N qual scope f di A outer s H E) [] (start N vs) H s1:=Gf S hr.hd e0 hl r x;refine mq (ht [] s1 (start N vs) H _ I hq) (fun fl s' hs=>?_) fun e s' hs=>hs;have fin:∀{σ':St} {H':Hp} {v:V} {u:Value},Inv (wg CX P w K mg base N qual scope f di A outer s H E) [] σ' H' s'→RelV v u→Q v H'→CE outer P w H s Q u s' :=
    fun {σ' H' v u} J rv q=>⟨v,H',J.os,J.bare,J.base,J.bU,rv,q⟩
  cases fl with
  |ret u=>obtain⟨v,σ',H',J,rv,q⟩:=hs;exact fin J rv q
  |next=>obtain⟨σ',H',J,q⟩:=hs;exact fin (v:=V.non) (u:=Value.none) J rfl q
  |brk=>obtain⟨_,_,_,q⟩:=hs;exact False.elim q
  |cont=>obtain⟨_,_,_,q⟩:=hs;exact False.elim q
section
variable {X:Cx} {x:Str} {p pos:Pos} {e:Expr} {es:List Expr} {t:TA} {id T:String} {r:List V→Hp→VK→Prop}
def ZR(r:List V→Hp→VK→Prop)(t:TA):TE:=fun σ H Q=>t σ H fun vs H1=>r vs H1 Q
theorem zL(hc:mw X (.builtin id) r)(hg:Gl X x)(hm:X.mg x=none)(hv:bootBuiltins x=some (.builtin id))(ha:PA X (e::es) t)(hn:x≠"__name__":=by decide)(iE:(x==("__debug__":Str))=false:=by decide)(he:starEach (e::es) X.env=(false,eval e X.env)::starEach es X.env:=by rfl)(m8:(backTo pos (starEach es X.env)).any (·.1)=false:=by rfl):PE X (.Call (.Name x p) (e::es) [] pos) (ZR r t):=by
  intro pins s σ H Q I h;refine sZ (gU I hg hm hv ?_ hn iE);exact PyProof.Rows.callWith_builtin1 (cQ (ha pos pins s σ H _ I h) fun us s1 ⟨vs,H1,I1,r1,q1⟩=>hc pins s1 σ H1 vs us Q I1 r1 q1) he m8
theorem rG(hc:mw X (.type T) r)(hg:Gl X x)(hm:X.mg x=none)(hv:bootBuiltins x=some (.type T))(ha:PA X (e::es) t)(hn:x≠"__name__":=by decide)(iE:(x==("__debug__":Str))=false:=by decide)(he:starEach (e::es) X.env=(false,eval e X.env)::starEach es X.env:=by rfl)(m8:(backTo pos (starEach es X.env)).any (·.1)=false:=by rfl):PE X (.Call (.Name x p) (e::es) [] pos) (ZR r t):=by
  intro pins s σ H Q I h;refine sZ (gU I hg hm hv ?_ hn iE);exact Bz (cQ (ha pos pins s σ H _ I h) fun us s1 ⟨vs,H1,I1,r1,q1⟩=>hc pins s1 σ H1 vs us Q I1 r1 q1) he m8
end
end L2
variable {xs:List (List L2.Key×PySem.Addr×PySem.Value)} {F F' H H':L2.Hp} {o:L2.HO} {v y:L2.V} {X:L2.Cx} {σ:L2.St} {vs:List L2.V} {r:L2.R2} {ao:List (List L2.Key×L2.V)}
namespace HT
open PySem PyProof.Rows
def lexLt:bK→bK→Bool
  |[],[]=>false
  |[],_::_=>true
  |_::_,[]=>false
  |x::xs,y::ys=>if x=y then lexLt xs ys else decide (x<y)
theorem gX(x y:Int)(xs ys:bK):lexLt (x::xs) (y::ys)=if x=y then lexLt xs ys else decide (x<y):=rfl
theorem nS:lexLt [] []=false:=rfl
theorem mx(y:Int)(ys:bK):lexLt [] (y::ys)=true:=rfl
theorem fU(x:Int)(xs:bK):lexLt (x::xs) []=false:=rfl
theorem Ip(A:Around)(s:Shared)(a:Int)(t:Tok)(c:Int)(u:Tok):∃e,SeqAt.EqAt A s (.int a t) (.int c u) e∧(e=true↔a=c) :=
  ⟨(a==c),SeqAt.EqAt.int_int a t c u,by simp⟩
theorem Iq(A:Around)(s:Shared)(a:Int)(t:Tok)(c:Int)(u:Tok)(prog:Program)(w:World)(E:fR)(Q:fR)(h:Q (.bool (decide (a<c))) s):wpAny (model prog w) A (richCompare .Lt (.int a t) (.int c u)) Q E s :=
  (PyProof.Rows.lt_int h:wpAny (model prog w) A (compareOp .Lt (.int a t) (.int c u)) Q E s)
section
open PySem.SeqAt
open PySem.AutoSeq1 (wpAny_loadPart')
open PySem.MeetsSeq PySem.MeetsSeq2 PySem.MeetsSeq3
theorem wj(l b:Addr)(items j4:Array Value)(n n2:Nat)(dd WT:Option Addr)(sl WU:Array fu)(ns ms:bK)(hi:IntsAre items.toList ns)(hj:IntsAre j4.toList ms):Meets (Builtin.«tuple.__lt__» ⟨[.ref l,.ref b],[]⟩) (fun _ R s=>s.heap.get? l=some { cls:=.type "tuple",dict:=dd,data:=.seq items n,slots:=sl }∧s.heap.get? b=some { cls:=.type "tuple",dict:=WT,data:=.seq j4 n2,slots:=WU }∧R (.ok (.ret (.bool (lexLt ns ms)))) s) :=
  .of_wp fun prog w A R s h=>by
    obtain⟨hp,g,d,tk,os⟩:=s;obtain⟨hl,hb,h⟩:=h;have f2:=AutoSeq1.sub_tuple_tuple;have z1:items.size=ns.length:=by rw[←hi.length];simp
    have z2:j4.size=ms.length:=by rw[←hj.length];simp
    wp_walk using wpAny_loadPart' hl,wpAny_loadPart' hb,wpAny_forIn_list _ (fun rest b s'=>b.1=none∧s'=⟨hp,g,d,tk,os⟩∧∃(vs ws:cv) (O4 Sn:bK),rest=vs.zip ws ∧
      IntsAre vs O4∧IntsAre ws Sn∧O4.length+j4.size=Sn.length+items.size∧R (.ok (.ret (.bool (lexLt O4 Sn)))) ⟨hp,g,d,tk,os⟩) _
    case turn =>
      rintro⟨y,x⟩ rest b s' ⟨Bs,rfl,vs,ws,O4,Sn,hz,WV,VM,hlen,hR⟩;cases WV with
      |nil=>rw[List.zip_nil_left] at hz;cases hz
      |cons a t WW =>
       cases VM with
       |nil=>rw[List.zip_nil_right] at hz;cases hz
       |cons c u WX =>
        rw[List.zip_cons_cons] at hz;injection hz with hyx TK;injection hyx with hy hx;subst hy hx;rw[gX] at hR;simp only[eT] at hlen;obtain⟨e,he,TL⟩:=Ip A.in1 ⟨hp,g,d,tk,os⟩ a t c u;refine aT (he prog w _ _ ?_);cases e with
        |true =>
         rw[ay (TL.mp rfl)] at hR
         wp_walk
         exact⟨rfl,rfl,_,_,_,_,TK,WW,WX,by omega,hR⟩
        |false =>
         rw[az (fun q=>absurd (TL.mpr q) gP)] at hR;have hri:=Iq A.in1 ⟨hp,g,d,tk,os⟩ a t c u prog w
         wp_walk using hri
         exact⟨_,rfl,by simpa using hR⟩
    case fin =>
      rintro⟨b1,b2⟩ s' ⟨Bs,rfl,vs,ws,O4,Sn,hz,WV,VM,hlen,hR⟩;simp only at Bs;subst Bs;have hv:lexLt O4 Sn=decide (items.size<j4.size):=by
        cases WV with
        |nil =>
         cases VM with
         |nil=>simp only[List.length_nil] at hlen;rw[nS];exact(gQ (by omega)).symm
         |cons c u hw=>simp only[List.length_nil,eT] at hlen;rw[mx];exact(mh (by omega)).symm
        |cons a t hv =>
         cases VM with
         |nil=>simp only[List.length_nil,eT] at hlen;rw[fU];exact(gQ (by omega)).symm
         |cons c u hw=>rw[List.zip_cons_cons] at hz;cases hz
      rw[hv] at hR
      wp_walk
      exact⟨_,rfl,by simpa[Builtin.Tuple.tupleCompareSizes] using hR⟩
    case h =>
      exact⟨rfl,rfl,items.toList,j4.toList,ns,ms,rfl,hi,hj,by omega,h⟩
end
section
variable {prog:Program} {w:World} {A:Around} {E:fR} {s:Shared}
theorem BX{l:Addr}{items j4:Array Value}{ms:bK}(hl:IsTup s.heap l items)(hb:IsTup s.heap b j4)(hi:IntsAre items.toList ns)(hj:IntsAre j4.toList ms)(hu:A.units<cLine)(h:Q (.bool (lexLt ns ms)) s):wpAny (model prog w) A (compareOp .Lt (.ref l) (.ref b)) Q E s:=by
  obtain⟨⟨cls,dd,data,sl⟩,ho,hc,n,hd⟩:=id hl;obtain⟨⟨abv,WT,data2,WU⟩,ZS,ZT,n2,hd2⟩:=id hb;simp only at hc hd ZT hd2;subst hc hd ZT hd2;exact richCompare_meets_room (op:=.Lt) ⟨_,ho,rfl⟩ ⟨_,ZS,rfl⟩ PySem.F.slot_tuple_lt PySem.F.entry_tuple_lt (PySem.F.args_tuple_lt_2 _ _) (wj l b items j4 n n2 dd WT sl WU ns ms hi hj)
    ⟨ho,ZS,show Value.bool (lexLt ns ms)≠Value.notImplemented∧Q (.bool (lexLt ns ms)) s from⟨(fun x=>nomatch x),h⟩⟩ hu
def rh(n d:Nat):Option Int→Nat
  |none=>d
  |some v=>if v<0 then(v+(n:Int)).toNat else min v.toNat n
theorem tQ(n d k:Nat):rh n d (some (k:Int))=min k n:=by show(if (k:Int)<0 then((k:Int)+(n:Int)).toNat else min (k:Int).toNat n)=min k n;rw[az (by omega),rj]
end
end HT
namespace L2
open PySem PySem.Spec PyProof.Rows
abbrev TO:=St→Hp→(Option Int→Hp→Prop)→Prop
def PO(X:Cx)(e:Option Expr)(t:TO):Prop :=
  ∀(pins:gu) (s:Shared) (σ:St) (H:Hp) (Q:Option Int→Hp→Prop),Inv X pins σ H s→t σ H Q →
   wpAny (model X.prog X.w) X.A (evalPart e X.env) (fun u s'=>∃o H',Inv X pins σ H' s'∧IsPart u o∧Q o H') X.xe s
def Ml:TO:=fun _ H Q=>Q none H
def TN(t:TE):TO:=fun σ H Q=>t σ H fun x H1=>∃i,x=.int i∧Q (some i) H1
theorem intsAre_of:∀{us:cv},Vals (ns.map V.int) us→IntsAre us ns:=by
  induction ns with
  |nil=>intro us r;rw[rq] at r;cases r;exact .nil
  |cons n ns ih =>
   intro us r;rw[cB] at r;cases r with
   |cons r1 r2=>obtain⟨t,e⟩:=r1;subst e;exact .cons n t (ih r2)
section
variable {X:Cx} {e:Expr} {te:TE} {lo hi:Option Expr} {tl th:TO} {pos p2:Pos}
theorem xU:PO X none Ml:=by intro pins s σ H Q I h;rw[evalPart_none];exact cu ⟨none,H,I,.none,h⟩
theorem Ef(h:PE X e te):PO X (some e) (TN te):=by intro pins s σ H Q I hw;rw[evalPart_some];refine cQ (h pins s σ H _ I hw) fun u s1 ⟨x,H1,I1,r1,q1⟩=>?_;obtain⟨i,rfl,q⟩:=q1;obtain⟨t,rfl⟩:=r1;exact⟨some i,H1,I1,.int i t,q⟩
def WY(X:Cx)(r:V→Option Int→Option Int→Hp→VK→Prop):Prop :=
  ∀(pins:gu) (s:Shared) (σ:St) (H:Hp) (x:V) (v vl vu:Value) (lo hi:Option Int) (sl:Addr) (Q:VK),Inv X pins σ H s→RelV x v→s.heap.IsSliceOf sl vl vu .none→IsPart vl lo→IsPart vu hi→r x lo hi H Q →
   ∃T id,typeLookup (.type T) "__getitem__"=pure (some (.builtin id))∧s.TypeIs v T∧wpAny (model X.prog X.w) X.A (getItem v (.ref sl)) (EP X pins σ Q) X.xe s
def tSl(r:V→Option Int→Option Int→Hp→VK→Prop)(te:TE)(tl th:TO):TE:=fun σ H Q=>te σ H fun x H1=>tl σ H1 fun l H2=>th σ H2 fun u H3=>r x l u H3 Q
theorem zM{r:V→Option Int→Option Int→Hp→VK→Prop}(hr:WY X r)(he:PE X e te)(hl:PO X lo tl)(hu:PO X hi th):PE X (.Subscript e (.Slice lo hi none p2) pos) (tSl r te tl th):=by intro pins s σ H Q I h;refine Subscript_ (cQ (he pins s σ H _ I h) fun v s1 ⟨x,H1,I1,r1,q1⟩=>?_);refine wpAny_Slice (cQ (hl pins s1 σ H1 _ I1 q1) fun vl s2 ⟨l,H2,I2,pl,q2⟩=>cQ (hu pins s2 σ H2 _ I2 q2) fun vu s3 ⟨u,H3,I3,pu,q3⟩=>?_);rw[evalPart_none];refine cu ?_;have I4:Inv X pins σ H3 { s3 with heap:=s3.heap.push { cls:=.type "slice",data:=.fields #[vl,vu,.none] } }:=I3.kept (t':=s3.toks) fun b ob q=>eo _ q;obtain⟨T,id,hT,ht,hg⟩:=hr pins { s3 with heap:=s3.heap.push { cls:=.type "slice",data:=.fields #[vl,vu,.none] } } σ H3 x v vl vu l u s3.heap.objs.size Q I4 r1 (Heap.IsSliceOf.new ..) pl pu q3;show wpAny (model X.prog X.w) X.A (subscriptTail e (.Slice lo hi none p2) v (.ref s3.heap.objs.size)) (EP X pins σ Q) X.xe { s3 with heap:=s3.heap.push { cls:=.type "slice",data:=.fields #[vl,vu,.none] } };exact tail_any (ops:=[.ref s3.heap.objs.size,v]) ht hT hg (by with_unfolding_all rfl)
def BZ(xs:List V)(lo hi:Option Int):List V:=(xs.drop (HT.rh xs.length 0 lo)).take (HT.rh xs.length xs.length hi-HT.rh xs.length 0 lo)
theorem sP(xs:List V)(lo hi:Option Int):(BZ xs lo hi).length≤xs.length:=by unfold BZ;rw[List.length_take,List.length_drop];omega
end
def LY(n:Nat)(i:Int):Option Nat:=if 0≤i then(if i<n then some i.toNat else none) else if -(n:Int)≤i then some (i+n).toNat else none
def rJ{α:Type}(xs:List α)(i:Int):Option α:=(LY xs.length i).bind fun j=>xs[j]?
theorem Eg{i:Int}(h:LY n i=some j):seqIndex? i n=some j∧j<n∧-(n:Int)≤i∧i<n:=by
  unfold LY at h;by_cases h0:0≤i
  · rw[ay h0] at h;by_cases h1:i<n
    ·rw[ay h1] at h;have e:i.toNat=j:=jG h;exact⟨by rw[seqIndex_of h0 h1,e],by omega,by omega,h1⟩
    ·rw[az h1] at h;cases h
  · rw[az h0] at h;by_cases h1:-(n:Int)≤i
    ·rw[ay h1] at h;have e:(i+n).toNat=j:=jG h;exact⟨by rw[seqIndex_neg (by omega) h1,e],by omega,h1,by omega⟩
    ·rw[az h1] at h;cases h
theorem xV{α:Type}{xs:List α}{i:Int}{v:α}(h:rJ xs i=some v):∃j,seqIndex? i xs.length=some j∧xs[j]?=some v∧j<xs.length∧-(xs.length:Int)≤i∧i<xs.length:=by
  unfold rJ at h;cases e:LY xs.length i with
  |none=>rw[e] at h;cases h
  |some j=>rw[e] at h;obtain⟨h1,h2,h3,h4⟩:=Eg e;exact⟨j,h1,h,h2,h3,h4⟩
theorem kN{α:Type}{xs:List α}{v:α}(h:xs[j]?=some v):rJ xs (j:Int)=some v:=by
  have hj:j<xs.length:=(kJ.mp h).1;have e:LY xs.length (j:Int)=some j:=by unfold LY;rw[ay (by omega),ay (by omega)];simp
  unfold rJ;rw[e];exact h
def tR(b:Expr):Prop:=∀o i,subscripted b false o i=operate [o,i] (getItem o i)
def O5(X:Cx)(r:R2):Prop :=
  ∀(value slice:Expr) (pins:gu) (s:Shared) (σ:St) (H:Hp) (x y:V) (v u:Value) (Q:VK),Inv X pins σ H s→RelV x v→RelV y u→r x y H Q →
   subscripted slice false v u=operate [v,u] (getItem v u)→wpAny (model X.prog X.w) X.A (subscriptTail value slice v u) (EP X pins σ Q) X.xe s
def Sq(X:Cx)(id:String)(r:V→List V→Hp→VK→Prop):Prop :=
  ∀(pins:gu) (s:Shared) (σ:St) (H:Hp) (x:V) (xs:List V) (v:Value) (us:cv) (Q:VK),Inv X pins σ H s→RelV x v→Vals xs us→r x xs H Q →
   wpAny (model X.prog X.w) X.A (call (.builtin id) (v::us)) (EP X pins σ Q) X.xe s
section
variable {X:Cx} {a b:Expr} {ta tb:TE} {pos:Pos}
theorem O5.or{r':R2}(h:O5 X r)(h':O5 X r'):O5 X (fun x y H Q=>r x y H Q∨r' x y H Q):=by
  intro value slice pins s σ H x y v u Q I rx ry q hs;rcases q with q|q
  ·exact h value slice pins s σ H x y v u Q I rx ry q hs
  ·exact h' value slice pins s σ H x y v u Q I rx ry q hs
theorem ik(hr:O5 X r)(ha:PE X a ta)(hb:PE X b tb)(hs:tR b):PE X (.Subscript a b pos) (D9 r ta tb):=by intro pins s σ H Q I h;exact Subscript_ (Qb ha hb I h fun v u s2 x y H2 I2 rx ry q=>hr a b pins s2 σ H2 x y v u Q I2 rx ry q (hs _ _))
def B1(K:PySem.W.Frag):R2:=fun x y H Q=>∃p xs i v,x=.ref p∧y=.int i∧eW K H p xs∧rJ xs i=some v∧Q v H
def WZ(K:PySem.W.Frag):R2:=fun x y H Q=>∃p xs i v,x=.ref p∧y=.int i∧gw K H p xs∧rJ xs i=some v∧Q v H
def TQ:R2:=fun x y H Q=>∃z i c,x=.str z∧y=.int i∧z.length≤sizeLine∧rJ z.cps.toList i=some c∧Q (.str ⟨#[c]⟩) H
theorem du:O5 X (B1 X.K):=by
  intro value slice pins s σ H x y v u Q I rx ry h hs;obtain⟨p,xs,i,z,rfl,rfl,hq,he,q⟩:=h;cases rx;obtain⟨t,rfl⟩:=ry;obtain⟨its,r,pl,hz⟩:=I.list hq;obtain⟨j,h1,h2,h3,h4,h5⟩:=xV he;obtain⟨w,ew,Ir⟩:=r.get h2;have hl:=r.length;have hn:=rE;have fin:EP X pins σ Q w s:=⟨z,H,I,Ir,q⟩
  by_cases h0:0≤i
  · have hj:i.toNat=j:=by
      rw[seqIndex_of h0 h5] at h1;exact jG h1
    exact item_listR pl.isList h0 (by omega) (by rw[hj];simpa using ew) fin hs
  · have hj:(i+(its.toArray.size:Int)).toNat=j:=by
      rw[seqIndex_neg (by omega) h4] at h1;rw[eE,←hl];exact jG h1
    exact subscriptTail_builtinR (x:=w) pl.isList.typeIs slot_list_getitem.lookup
      (wpAny_getItem_list_neg (Q:=fun r s'=>r=w∧EP X pins σ Q r s') pl.isList (by omega) (by rw[eE]<;>omega) (by omega) (by rw[hj];simpa using ew) ⟨rfl,fin⟩) hs
theorem Iu:O5 X (WZ X.K):=by
  intro value slice pins s σ H x y v u Q I rx ry h hs;obtain⟨p,xs,i,z,rfl,rfl,hq,he,q⟩:=h;cases rx;obtain⟨t,rfl⟩:=ry;obtain⟨its,r,pl,hz⟩:=I.tuple hq;obtain⟨j,h1,h2,h3,h4,h5⟩:=xV he;obtain⟨w,ew,Ir⟩:=r.get h2;have hl:=r.length;have hn:=rE;have fin:EP X pins σ Q w s:=⟨z,H,I,Ir,q⟩
  exact subscriptTail_builtinR (x:=w) pl.typeIs slot_tuple_getitem.lookup
    (getItem_tuple (j:=j) (Q:=fun r s'=>r=w∧EP X pins σ Q r s') pl (by omega) (by omega) (by rw[eE,←hl];exact h1) (by simpa using ew) ⟨rfl,fin⟩) hs
theorem Qm:O5 X TQ:=by
  intro value slice pins s σ H x y v u Q I rx ry h hs;obtain⟨z,i,c,rfl,rfl,hz,he,q⟩:=h;obtain⟨t,rfl⟩:=rx;obtain⟨t',rfl⟩:=ry;obtain⟨j,h1,h2,h3,h4,h5⟩:=xV he;have hl:z.cps.toList.length=z.length:=by simp[Str.length]
  rw[hl] at h1 h4 h5;have hn:=rE;exact tail_any (typeIs_str s z t) slot_str_getitem.lookup (getItem_str (c:=c) (by
    have e1:decide (i< -(2^63:Int))=false:=gQ (by omega);have e2:decide (i≥2^63)=false:=gQ (by omega);rw[e1,e2,Bool.or_false]) (by rw[h1];simpa using h2) ⟨.str ⟨#[c]⟩,H,I.tok _,⟨_,rfl⟩,q⟩) hs
theorem B2(its:cv)(n j:Nat)(u:Value):Obj.mapSeq (·.setIfInBounds j u) { cls:=.type "list",data:=.seq its.toArray n }={ cls:=.type "list",data:=.seq (its.set j u).toArray n }:=by simp[Obj.mapSeq]
theorem Inv.lst{pins:gu}{σ:St}{H:Hp}{s:Shared}{p:Addr}{xs:List V}(I:Inv X pins σ H s)(h:H p=some (.lst xs)):∃(its:cv) (n:Nat),Vals xs its∧s.heap.get? p=some { cls:=.type "list",data:=.seq its.toArray n }∧xs.length≤sizeLine:=by
  obtain⟨z,its,n,r,e⟩:=I.bU p _ h;exact⟨its,n,r,e,z⟩
theorem Inv.Qn{xs ys:List V}{its its':cv}{n':Nat}{f:Obj→Obj}(I:Inv X pins σ H s)(h:H p=some (.lst xs))(ho:s.heap.get? p=some { cls:=.type "list",data:=.seq its.toArray n })(hf:f { cls:=.type "list",data:=.seq its.toArray n }={ cls:=.type "list",data:=.seq its'.toArray n' })(r:Vals ys its')(hz:ys.length≤sizeLine)(t:Nat):Inv X pins σ (upd H p (.lst ys)) { s with heap:=s.heap.update p f,toks:=t }:=by
  have e:(s.heap.update p f).get? p=some { cls:=.type "list",data:=.seq its'.toArray n' }:=by rw[sX f ho (by rw[hf]<;>rfl),hf]
  refine I.write (x:=p) (e:=p) (by rw[h];trivial) (.inl rfl) (fun b u hb q=>(Heap.get?_update_other _ _ (dq hb)).trans q) ⟨_,e⟩ ?_;exact⟨hz,its',n',r,e⟩
def TR:V→V→V→Hp→(Hp→Prop)→Prop:=fun o i v H Q=>∃p xs k j,o=.ref p∧i=.int k∧H p=some (.lst xs)∧LY xs.length k=some j∧Q (upd H p (.lst (xs.set j v)))
theorem set_list:Tg X TR:=by
  intro pins s σ H o i v ov iv u Q I ro ri rv h;obtain⟨p,xs,k,j,rfl,rfl,hp,hj,q⟩:=h;cases ro;obtain⟨t,rfl⟩:=ri;obtain⟨its,n,r,ho,hz⟩:=I.lst hp;obtain⟨h1,h2,h3,h4⟩:=Eg hj;have hl:=r.length;have hn:=rE;have I':Inv X pins σ (upd H p (.lst (xs.set j v))) { s with heap:=s.heap.update p (Obj.mapSeq (·.setIfInBounds j u)) } :=
    I.Qn hp ho (B2 its n j u) (r.set rv j) (by rw[List.length_set];exact hz) s.toks
  by_cases h0:0≤k
  · have hk:k.toNat=j:=by
      rw[seqIndex_of h0 h4] at h1;exact jG h1
    exact PySem.W.ki_setAt ho h0 (by omega) (by rw[eE,←hl];exact h4) (by rw[hk];exact⟨_,I',q⟩)
  · have hk:(k+(its.toArray.size:Int)).toNat=j:=by
      rw[seqIndex_neg (by omega) h3] at h1;rw[eE,←hl];exact jG h1
    exact PySem.W.ki_setBack ho (by omega) (by rw[eE,←hl];exact h3) (by omega) (by rw[hk];exact⟨_,I',q⟩)
theorem xW(lo hi:Option Int)(n:Nat):(sliceBounds lo hi none n).1=((HT.rh n 0 lo:Nat):Int)∧(sliceBounds lo hi none n).2.1=((HT.rh n n hi:Nat):Int)∧(sliceBounds lo hi none n).2.2=1:=by
  refine⟨?_,?_,rfl⟩
  · cases lo with
    |none=>simp[sliceBounds,HT.rh]
    |some i =>
     simp only[sliceBounds,HT.rh,Option.getD_none,show(1:Int)>0 by decide,cw];by_cases h:i<0
     ·simp only[h,cw]<;>omega
     ·simp only[h,jJ]<;>omega
  · cases hi with
    |none=>simp[sliceBounds,HT.rh]
    |some i =>
     simp only[sliceBounds,HT.rh,Option.getD_none,show(1:Int)>0 by decide,cw];by_cases h:i<0
     ·simp only[h,cw]<;>omega
     ·simp only[h,jJ]<;>omega
theorem wm(its:cv)(lo hi:Option Int):slicePick its.toArray lo hi none=((its.drop (HT.rh its.length 0 lo)).take (HT.rh its.length its.length hi-HT.rh its.length 0 lo)).toArray:=by obtain⟨h1,h2,h3⟩:=xW lo hi its.toArray.size;unfold slicePick;rw[h1,h2,h3];simp only[sliceRange_one,pick_run,eE]<;>rfl
def W0(K:PySem.W.Frag):V→Option Int→Option Int→Hp→VK→Prop:=fun x lo hi H Q=>∃a xs,x=.ref a∧eW K H a xs∧∀p,H p=none→Q (.ref p) (upd H p (.lst (BZ xs lo hi)))
theorem Mm:WY X (W0 X.K):=by intro pins s σ H x v vl vu lo hi sl Q I rx hs pl pu h;obtain⟨a,xs,rfl,hx,q⟩:=h;cases rx;obtain⟨its,r,ht,hz⟩:=I.list hx;have hlen:=r.length;refine⟨"list",_,slot_list_getitem.lookup,ht.isList.typeIs,?_⟩;refine wpAny_getItem_list_slice ht.isList hs pl pu .none (by simp) ?_ (by rw[eE]<;>omega);rw[wm,←hlen];refine⟨.ref s.heap.objs.size,_,I.laid (t':=s.toks) (o:=.lst (BZ xs lo hi)) (fun b ob q=>eo _ q) (bG _) ?_,rfl,q _ (I.bU.fresh (bG _))⟩;exact⟨gy (sP xs lo hi) hz,_,0,(r.drop (HT.rh xs.length 0 lo)).take (HT.rh xs.length xs.length hi-HT.rh xs.length 0 lo),cT _ rfl⟩
def my:V→Bool
  |.non=>true
  |.bl _=>true
  |.int _=>true
  |.str _=>true
  |_=>false
def Iv:V→V→Bool
  |.non,.non=>true
  |.bl a,.bl b=>a==b
  |.bl a,.int b=>(if a then 1 else 0)==b
  |.int a,.bl b=>a==(if b then 1 else 0)
  |.int a,.int b=>a==b
  |.str a,.str b=>a==b
  |_,_=>false
theorem Qo{x:V}{v:Value}(ry:RelV y u)(rx:RelV x v)(fy:my y=true)(fx:my x=true):SeqAt.EqAt A s u v (Iv y x):=by
  cases y with
  |non =>
   cases ry;cases x with
   |non=>cases rx;exact SeqAt.EqAt.same _
   |bl b=>cases rx;exact SeqAt.EqAt.none_bool b
   |int b=>obtain⟨t,rfl⟩:=rx;exact SeqAt.EqAt.none_int b t
   |str b=>obtain⟨t,rfl⟩:=rx;exact SeqAt.EqAt.none_str b t
   |_=>exact absurd (show false=true from fx) gP
  |bl a =>
   cases ry;cases x with
   |non=>cases rx;exact SeqAt.EqAt.bool_none a
   |bl b=>cases rx;exact SeqAt.EqAt.bool_bool a b
   |int b=>obtain⟨t,rfl⟩:=rx;exact SeqAt.EqAt.bool_int a b t
   |str b=>obtain⟨t,rfl⟩:=rx;exact SeqAt.EqAt.bool_str a b t
   |_=>exact absurd (show false=true from fx) gP
  |int a =>
   obtain⟨t',rfl⟩:=ry;cases x with
   |non=>cases rx;exact SeqAt.EqAt.int_none a t'
   |bl b=>cases rx;exact SeqAt.EqAt.int_bool a t' b
   |int b=>obtain⟨t,rfl⟩:=rx;exact SeqAt.EqAt.int_int a t' b t
   |str b=>obtain⟨t,rfl⟩:=rx;exact SeqAt.EqAt.int_str a t' b t
   |_=>exact absurd (show false=true from fx) gP
  |str a =>
   obtain⟨t',rfl⟩:=ry;cases x with
   |non=>cases rx;exact SeqAt.EqAt.str_none a t'
   |bl b=>cases rx;exact SeqAt.EqAt.str_bool a t' b
   |int b=>obtain⟨t,rfl⟩:=rx;exact SeqAt.EqAt.str_int a t' b t
   |str b=>obtain⟨t,rfl⟩:=rx;exact SeqAt.EqAt.str_str a t' b t
   |_=>exact absurd (show false=true from fx) gP
  |_=>exact absurd (show false=true from fy) gP
def zN(x:V)(u:Value):Bool:=match u with
  |.none=>Iv .non x
  |.bool b=>Iv (.bl b) x
  |.int i _=>Iv (.int i) x
  |.str z _=>Iv (.str z) x
  |_=>false
theorem B3{x:V}(r:RelV y u)(f:my y=true):zN x u=Iv y x:=by
  cases y with
  |non=>cases r;rfl
  |bl b=>cases r;rfl
  |int i=>obtain⟨t,rfl⟩:=r;rfl
  |str z=>obtain⟨t,rfl⟩:=r;rfl
  |_=>exact absurd (show false=true from f) gP
theorem pO{x:V}:∀{xs:List V} {us:cv},Vals xs us→xs.all my=true→us.any (zN x)=xs.any fun y=>Iv y x
  |_,_,.nil,_=>rfl
  |y::xs,u::us,.cons r t,f=>by rw[List.all_cons,oz] at f;rw[List.any_cons,List.any_cons,B3 r f.1,pO t f.2]
theorem kz{A:Around}{s:Shared}{x:V}{v:Value}(rx:RelV x v)(fx:my x=true):∀{xs:List V} {us:cv},Vals xs us→xs.all my=true→∀u∈us,SeqAt.EqAt A s u v (zN x u)
  |_,_,.nil,_=>fun u hu=>by cases hu
  |y::xs,u::us,.cons r t,f=>fun u' hu=>by
   rw[List.all_cons,oz] at f;rcases dm.mp hu with rfl|hu
   ·rw[B3 r f.1];exact Qo r rx f.1 fx
   ·exact kz rx fx t f.2 u' hu
def O6(x:V)(xs:List V):Bool:=xs.any fun y=>Iv y x
def W2(K:PySem.W.Frag)(neg:Bool):R2:=fun x y H Q=>∃p xs,y=.ref p∧(eW K H p xs∨gw K H p xs)∧my x=true∧xs.all my=true∧Q (.bl (if neg then !O6 x xs else O6 x xs)) H
theorem Gg:nR X (compareOp .In) (W2 X.K false):=by
  intro pins s σ H x y v u Q I rx ry h;obtain⟨p,xs,rfl,hq,fx,fs,q⟩:=h;cases ry;rcases hq with hq|hq
  ·obtain⟨its,r,pl,hz⟩:=I.list hq;refine SeqAt.in_listAt (zN x) pl.isList (fun w hw=>kz rx fx r fs w (by simpa using hw)) ⟨.bl _,H,I,rfl,?_⟩;rw[show its.toArray.any (zN x)=its.any (zN x) by simp,pO r fs];exact q
  ·obtain⟨its,r,pl,hz⟩:=I.tuple hq;refine SeqAt.in_tupleAt (zN x) pl (fun w hw=>kz rx fx r fs w (by simpa using hw)) ⟨.bl _,H,I,rfl,?_⟩;rw[show its.toArray.any (zN x)=its.any (zN x) by simp,pO r fs];exact q
theorem xX:nR X (compareOp .NotIn) (W2 X.K true):=by
  intro pins s σ H x y v u Q I rx ry h;obtain⟨p,xs,rfl,hq,fx,fs,q⟩:=h;cases ry;rcases hq with hq|hq
  ·obtain⟨its,r,pl,hz⟩:=I.list hq;refine SeqAt.notIn_listAt (zN x) pl.isList (fun w hw=>kz rx fx r fs w (by simpa using hw)) ⟨.bl _,H,I,rfl,?_⟩;rw[show its.toArray.any (zN x)=its.any (zN x) by simp,pO r fs];exact q
  ·obtain⟨its,r,pl,hz⟩:=I.tuple hq;refine SeqAt.notIn_tupleAt (zN x) pl (fun w hw=>kz rx fx r fs w (by simpa using hw)) ⟨.bl _,H,I,rfl,?_⟩;rw[show its.toArray.any (zN x)=its.any (zN x) by simp,pO r fs];exact q
theorem bt:mw X (.builtin "len") (fun xs H Q=>∃p ys,xs=[.ref p]∧(eW X.K H p ys∨gw X.K H p ys)∧Q (.int ys.length) H):=by
  intro pins s σ H xs us Q I r h;obtain⟨p,ys,rfl,hq,q⟩:=h;obtain⟨u,rfl,rx⟩:=vals1 r;cases rx;have hn:=rE;rcases hq with hq|hq
  ·obtain⟨its,r',pl,hz⟩:=I.list hq;have hlen:=r'.length;exact Calls.call_len_list pl.isList (by simp only[eE]<;>omega) ⟨.int ys.length,H,I.tok _,⟨s.toks+1,by rw[eE,hlen]⟩,q⟩
  ·obtain⟨its,r',pl,hz⟩:=I.tuple hq;have hlen:=r'.length;exact len_tuple pl (by simp only[eE]<;>omega) ⟨.int ys.length,H,I.tok _,⟨s.toks+1,by rw[eE,hlen]⟩,q⟩
theorem pP:mw X (.builtin "len") (fun xs H Q=>∃z,xs=[.str z]∧z.length≤sizeLine∧Q (.int z.length) H):=by intro pins s σ H xs us Q I r h;obtain⟨z,rfl,hz,q⟩:=h;obtain⟨u,rfl,t,rfl⟩:=vals1 r;have hn:=rE;exact len_str (by omega) ⟨.int z.length,H,I.tok _,⟨_,rfl⟩,q⟩
theorem pQ:mw X (.type "list") (fun xs H Q=>∃p ys,xs=[.ref p]∧(eW X.K H p ys∨gw X.K H p ys)∧∀l,H l=none→Q (.ref l) (upd H l (.lst ys))):=by
  intro pins s σ H xs us Q I r h;obtain⟨p,ys,rfl,hq,q⟩:=h;obtain⟨u,rfl,rx⟩:=vals1 r;cases rx;have fin:∀(its:cv),Vals ys its→ys.length≤sizeLine→∀(h':Heap) (c':Nat),(∀b o',s.heap.get? b=some o'→h'.get? b=some o') →
      h'.get? s.heap.objs.size=some { cls:=.type "list",dict:=none,data:=.seq its.toArray c',slots:=#[] }→EP X pins σ Q (.ref s.heap.objs.size) { s with heap:=h' }:=fun its r' hz h' c' kp e =>
    ⟨.ref s.heap.objs.size,_,I.laid (t':=s.toks) kp (bG _) (show bR X.prog X.w _ h' _ (.lst ys) from⟨hz,its,c',r',e⟩),rfl,q _ (I.bU.fresh (bG _))⟩
  rcases hq with hq|hq
  ·obtain⟨its,r',pl,hz⟩:=I.list hq;have hlen:=r'.length;obtain⟨o,ho,hc,n,hd⟩:=pl.isList;exact call_list_seq p (.inl rfl) ho hc hd (fun h' c' kp e=>fin its r' hz h' c' kp e) (by simp only[eE]<;>omega)
  ·obtain⟨its,r',pl,hz⟩:=I.tuple hq;have hlen:=r'.length;obtain⟨o,ho,hc,n,hd⟩:=pl;exact call_list_seq p (.inr rfl) ho hc hd (fun h' c' kp e=>fin its r' hz h' c' kp e) (by simp only[eE]<;>omega)
theorem wo:mw X (.type "tuple") (fun xs H Q=>∃p ys,xs=[.ref p]∧((eW X.K H p ys∧∀l,H l=none→Q (.ref l) (upd H l (.tup ys)))∨(gw X.K H p ys∧Q (.ref p) H))):=by
  intro pins s σ H xs us Q I r h;obtain⟨p,ys,rfl,h⟩:=h;obtain⟨u,rfl,rx⟩:=vals1 r;cases rx;rcases h with⟨hq,q⟩|⟨hq,q⟩
  · obtain⟨its,r',pl,hz⟩:=I.list hq;have hlen:=r'.length;refine call_tuple_list pl.isList (fun h' kp=>?_) (by simp only[eE]<;>omega);have I1:Inv X pins σ H { s with heap:=h' }:=I.kept (t':=s.toks) kp;have I2:Inv X pins σ (upd H h'.objs.size (.tup ys)) { s with heap:=h'.push { cls:=.type "tuple",data:=.seq its.toArray } } :=
      I1.laid (t':=s.toks) (fun b o e=>eo _ e) (bG _) (show bR X.prog X.w _ _ _ (.tup ys) from⟨hz,its,r',IsTup.new _ _⟩)
    exact⟨.ref h'.objs.size,_,I2,rfl,q _ (I1.bU.fresh (bG _))⟩
  ·obtain⟨its,r',pl,hz⟩:=I.tuple hq;exact call_tuple_same pl ⟨.ref p,H,I,rfl,q⟩
def W3(K:PySem.W.Frag)(T:String)(x:V)(H:Hp):Prop:=match x with
  |.str _=>T="str"
  |.int _=>T="int"
  |.ref p=>(T="list"∧∃xs,eW K H p xs)∨(T="tuple"∧∃o,K.lookup p=some o∧o.cls=.type "tuple"∧o.dict=none) ∨
      (T="dict"∧((∃ao,H p=some (.dK ao))∨∃ao,H p=some (.dT ao)))∨(T="set"∧∃S n,H p=some (.set S n))
  |_=>False
theorem Iw{x:V}{v:Value}(I:Inv X pins σ H s)(r:RelV x v)(ty:W3 X.K T x H):s.TypeIs v T∧∀a,v=.ref a→∃ob,s.heap.get? a=some ob∧ob.dict=none:=by
  cases x with
  |str z=>obtain⟨t,rfl⟩:=r;cases(show T="str" from ty);exact⟨typeIs_str s z t,fun _ e=>nomatch e⟩
  |int i=>obtain⟨t,rfl⟩:=r;cases(show T="int" from ty);exact⟨typeIs_int s i t,fun _ e=>nomatch e⟩
  |ref p =>
   cases r;rcases ty with⟨rfl,xs,hq⟩|⟨rfl,o,hk,hc,hd⟩|⟨rfl,hk⟩|⟨rfl,S,n,hk⟩
   ·obtain⟨its,_,pl,_⟩:=I.list hq;refine⟨pl.isList.typeIs,fun a e=>?_⟩;cases e;obtain⟨o,n,e,c,hd,_⟩:=pl;exact⟨o,e,hd⟩
   ·refine⟨⟨o,I.rg p o hk,hc⟩,fun a e=>?_⟩;cases e;exact⟨o,I.rg _ o hk,hd⟩
   · have z:∃o,s.heap.get? p=some o∧o.ExactDict:=by
       rcases hk with⟨ao,hk⟩|⟨ao,hk⟩
       ·obtain⟨_,_,_,_,o,_,_,e,ex,_⟩:=I.bU p _ hk;exact⟨o,e,ex⟩
       ·obtain⟨_,_,_,_,o,_,_,e,ex,_⟩:=I.bU p _ hk;exact⟨o,e,ex⟩
     obtain⟨o,e,ex⟩:=z;refine⟨⟨o,e,ex.1⟩,fun a e2=>?_⟩;cases e2;exact⟨o,e,ex.2.1⟩
   ·obtain⟨o,_,_,_,e,ex,_⟩:=I.bU p _ hk;refine⟨⟨o,e,ex.1⟩,fun a e2=>?_⟩;cases e2;exact⟨o,e,ex.2.1⟩
  |_=>exact False.elim ty
def W4(K:PySem.W.Frag)(T:String)(r:V→List V→Hp→VK→Prop)(to:TE):TE:=fun σ H Q=>to σ H fun x H1=>W3 K T x H1∧r x [] H1 Q
def tBM(K:PySem.W.Frag)(T:String)(r:V→List V→Hp→VK→Prop)(to:TE)(t:TA):TE:=fun σ H Q=>to σ H fun x H1=>W3 K T x H1∧t σ H1 fun xs H2=>r x xs H2 Q
variable {o e:Expr} {es:List Expr} {to:TE} {t:TA} {name:Str} {apos aX:Pos} {T id:String} {r:V→List V→Hp→VK→Prop}
theorem B4(pa:PlainAttrs T)(slot:Slot T name id)(Sr:typeOf (.builtin id)=pure (.type "method_descriptor"))(hm:Sq X id r)(ho:PE X o to)(cG:attributeBase o name X.env (eval o X.env)=eval o X.env:=by rfl)(hline:(apos.endLine==aX.line)=true:=by rfl):PE X (.Call (.Attribute o name apos) [] [] aX) (W4 X.K T r to):=by
  intro pins s σ H Q I h;refine wpAny_Call_method0_late cG hline (cQ (ho pins s σ H _ I h) fun v s1 ⟨x,H1,I1,r1,ty,q1⟩=>?_);obtain⟨h1,h2⟩:=Iw I1 r1 ty;exact⟨T,id,pa,slot,Sr,h1,h2,Calls.callWith_builtin rfl (PySem.evalArgs_none (hm pins s1 σ H1 x [] v [] Q I1 r1 .nil q1))⟩
theorem wZ(pa:PlainAttrs T)(slot:Slot T name id)(Sr:typeOf (.builtin id)=pure (.type "method_descriptor"))(hm:Sq X id r)(ho:PE X o to)(ha:PA X (e::es) t)(cG:attributeBase o name X.env (eval o X.env)=eval o X.env:=by rfl)(rK:((backTo aX (starEach (e::es) X.env)).all (fun x=>!x.1)&&(backToKw aX (keywordEach [] X.env)).all (fun x=>x.1.isSome)
      && decide ((e::es).length+([]:List Keyword).length+(if ([]:List Keyword).isEmpty then 0 else 1)<30))=true:=by rfl)(hline:(apos.endLine==aX.line)=true:=by rfl)(hs:starEach (e::es) X.env=(false,eval e X.env)::starEach es X.env:=by rfl)(Qp:(backTo aX (starEach es X.env)).any (·.1)=false:=by rfl):PE X (.Call (.Attribute o name apos) (e::es) [] aX) (tBM X.K T r to t):=by
  intro pins s σ H Q I h;refine wpAny_Call_method_late cG rK hline rfl (cQ (ho pins s σ H _ I h) fun v s1 ⟨x,H1,I1,r1,ty,q1⟩=>?_);obtain⟨h1,h2⟩:=Iw I1 r1 ty;refine⟨T,id,pa,slot,Sr,h1,h2,?_⟩;have hA:=ha aX pins s1 σ H1 _ I1 q1;rw[hs] at hA⊢;refine Calls.callWith_builtin (by show(false||(backTo aX (starEach es X.env)).any (·.1))=false;rw[Qp]<;>rfl) (Calls.evalArgs_plain ?_);exact cQ hA fun us s2 ⟨vs,H2,I2,r2,q2⟩=>hm pins s2 σ H2 x vs v us Q I2 r1 r2 q2
end
def VN(X:Cx)(id:String)(r:V→List V→Hp→VK→Prop):Prop :=
  ∀(pins:gu) (s:Shared) (σ:St) (H:Hp) (x:V) (xs:List V) (v:Value) (us:cv) (Q:VK),Inv X pins σ H s→RelV x v→Vals xs us→r x xs H Q →
   wpAny (model X.prog X.w) X.A (call (.builtin id) (v::us)) (EP X pins σ Q) X.xe s
theorem Vals.one:∀{x:V} {us:cv},Vals [x] us→∃u,us=[u]∧RelV x u
  |_,_,.cons r .nil=>⟨_,rfl,r⟩
theorem Vals.zero:∀{us:cv},Vals [] us→us=[]
  |_,.nil=>rfl
theorem Vals.reverse{xs:List V}(h:Vals xs us):Vals xs.reverse us.reverse:=by
  induction h with
  |nil=>exact .nil
  |cons r t ih=>rw[List.reverse_cons,List.reverse_cons];exact Vals.append ih (.cons r .nil)
section
variable {X:Cx} {pins:gu} {σ:St} {H:Hp} {s:Shared} {l b:Addr} {xs ys zs:List V}
theorem Inv.Mp{its its':cv}{f:Array Value→Array Value}(I:Inv X pins σ H s)(hH:H l=some (.lst xs))(e:s.heap.get? l=some { cls:=.type "list",data:=.seq its.toArray n })(hf:f its.toArray=its'.toArray)(hv:Vals ys its')(hz:ys.length≤sizeLine):Inv X pins σ (upd H l (.lst ys)) { s with heap:=s.heap.update l (Obj.mapSeq f),toks:=t' }:=by
  have q:=PySem.IsL.update e f;rw[hf] at q;refine I.write (x:=l) (e:=l) (by rw[hH];exact trivial) (.inl rfl) (fun b' u hb hu=>(Heap.get?_update_other s.heap (Obj.mapSeq f) (dq hb)).trans hu) ⟨_,q⟩ ?_;exact⟨hz,its',_,hv,q⟩
theorem Inv.Mq(I:Inv X pins σ H s)(hH:H l=some (.lst xs)):xs.length≤sizeLine∧∃(its:cv) (n:Nat),Vals xs its∧xs.length=its.length∧s.heap.get? l=some { cls:=.type "list",data:=.seq its.toArray n }:=by obtain⟨z,its,n,r,e⟩:=I.bU l _ hH;exact⟨z,its,n,r,r.length,e⟩
end
section
variable {X:Cx}
def Mr:V→List V→Hp→VK→Prop:=fun x vs H Q=>∃l xs y,x=.ref l∧vs=[y]∧H l=some (.lst xs)∧xs.length<sizeLine∧Q .non (upd H l (.lst (xs++[y])))
theorem Gh:VN X "list.append" Mr:=by intro pins s σ H x vs v us Q I rx rv h;obtain⟨l,xs,y,rfl,rfl,hH,hz,q⟩:=h;cases rx;obtain⟨u,rfl,ru⟩:=rv.one;obtain⟨z,its,n,r,hl,e⟩:=I.Mq hH;refine call_meets F.slot_list_append ⟨_,e,rfl⟩ F.entry_list_append (F.args_list_append_2 _ _) (PySem.list_append l its.toArray n u (by rw[eE];omega)) ⟨e,?_⟩;refine⟨.non,_,I.Mp (its':=its++[u]) hH e (by simp) (r.append (.cons ru .nil)) ?_,rfl,q⟩;rw[lZ,List.length_singleton];omega
def Iz:V→List V→Hp→VK→Prop:=fun x vs H Q=>∃l xs,x=.ref l∧vs=[]∧H l=some (.lst xs)∧Q .non (upd H l (.lst xs.reverse))
theorem B5:VN X "list.reverse" Iz:=by intro pins s σ H x vs v us Q I rx rv h;obtain⟨l,xs,rfl,rfl,hH,q⟩:=h;cases rx;have W5:=rv.zero;subst W5;obtain⟨z,its,n,r,hl,e⟩:=I.Mq hH;refine call_meets F.slot_list_reverse ⟨_,e,rfl⟩ F.entry_list_reverse (F.args_list_reverse_1 _) (AutoSeq1.list_reverse_list_0 l its.toArray n (by rw[eE];omega)) ⟨e,?_⟩;refine⟨.non,_,I.Mp (its':=its.reverse) hH e (by simp) r.reverse ?_,rfl,q⟩;rw[List.length_reverse];omega
def Qq:V→List V→Hp→VK→Prop:=fun x vs H Q=>∃l xs,x=.ref l∧vs=[]∧H l=some (.lst xs)∧Q .non (upd H l (.lst []))
theorem zO:VN X "list.clear" Qq:=by intro pins s σ H x vs v us Q I rx rv h;obtain⟨l,xs,rfl,rfl,hH,q⟩:=h;cases rx;have W5:=rv.zero;subst W5;obtain⟨z,its,n,r,hl,e⟩:=I.Mq hH;refine call_meets F.slot_list_clear ⟨_,e,rfl⟩ F.entry_list_clear (F.args_list_clear_1 _) (AutoSeq1.list_clear_list_0 l its.toArray n (by rw[eE];omega)) ⟨e,?_⟩;exact⟨.non,_,I.Mp (its':=[]) (ys:=[]) hH e rfl .nil (iC _),rfl,q⟩
end
section
variable {κ:Type} [DecidableEq κ]
def nM(ao:List (κ×V))(k:κ):Option V:=(ao.find? fun kv=>decide (kv.1=k)).map (·.2)
def putK(ao:List (κ×V))(k:κ)(v:V):List (κ×V) :=
  if (ao.any fun kv=>decide (kv.1=k))=true then ao.map (fun kv=>if kv.1=k then(kv.1,v) else kv) else ao++[(k,v)]
theorem pR{p:κ×V}{r:List (κ×V)}{k:κ}(e:p.1=k):nM (p::r) k=some p.2:=by simp[nM,rm,e]
theorem pS{p:κ×V}{r:List (κ×V)}{k:κ}(e:¬ p.1=k):nM (p::r) k=nM r k:=by simp[nM,rm,e]
theorem zP(k:κ):∀ao:List (κ×V),(ao.any fun kv=>decide (kv.1=k))=(nM ao k).isSome
  |[]=>rfl
  |p::r=>by
   rw[List.any_cons];by_cases e:p.1=k
   ·simp only[pR e,mh e,Bool.true_or,Option.isSome_some]
   ·rw[pS e,gQ e,Bool.false_or];exact zP k r
theorem jK(ao:List (κ×V))(k:κ)(v:V):(putK ao k v).length≤ao.length+1:=by
  unfold putK;split
  ·rw[fG];omega
  ·rw[lZ,eT,List.length_nil];omega
theorem lQ.Gj{o:Option V}{u:fu}(r:lQ o u):o.isSome=u.isSome:=by
  cases o with
  |none=>cases u with
   |none=>rfl
   |some _=>exact(show False from r).elim
  |some _=>cases u with
   |none=>exact(show False from r).elim
   |some _=>rfl
theorem lQ.getD{o:Option V}{u:fu}{d:V}{d':Value}(r:lQ o u)(rd:RelV d d'):RelV (o.getD d) (u.getD d'):=by
  cases o with
  |none=>cases u with
   |none=>exact rd
   |some _=>exact(show False from r).elim
  |some _=>cases u with
   |none=>exact(show False from r).elim
   |some _=>exact r
theorem KV.val{ao:List (κ×V)}{vs:List (κ×Value)}(r:KV ao vs)(k:κ):lQ (nM ao k) (valueAt vs k):=by
  unfold KV at r;induction r with
  |nil=>exact True.intro
  |@cons p q ps qs h t ih =>
   obtain⟨h1,h2⟩:=h;by_cases e:p.1=k
   · have e':q.1=k:=h1.symm.trans e;have b:valueAt (q::qs) k=some q.2:=by simp[valueAt,rm,e']
     rw[pR e,b];exact h2
   · have e':¬ q.1=k:=fun z=>e (h1.trans z);have b:valueAt (q::qs) k=valueAt qs k:=by simp[valueAt,rm,e']
     rw[pS e,b];exact ih
theorem KV.any{ao:List (κ×V)}{vs:List (κ×Value)}(r:KV ao vs)(k:κ):(ao.any fun kv=>decide (kv.1=k))=vs.any fun kv=>decide (kv.1=k):=by
  unfold KV at r;induction r with
  |nil=>rfl
  |cons h t ih=>rw[List.any_cons,List.any_cons,ih,h.1]
theorem KV.Qr{ao:List (κ×V)}{vs:List (κ×Value)}(r:KV ao vs)(k:κ)(ry:RelV y u):KV (ao.map fun kv=>if kv.1=k then(kv.1,y) else kv) (vs.map fun kv=>if kv.1=k then(kv.1,u) else kv):=by
  unfold KV at r⊢;induction r with
  |nil=>exact .nil
  |@cons p q ps qs h t ih =>
   rw[cB,cB];refine .cons ?_ ih;obtain⟨h1,h2⟩:=h;by_cases e:p.1=k
   ·rw[ay e,ay (h1.symm.trans e)];exact⟨h1,ry⟩
   ·rw[az e,az (fun z=>e (h1.trans z))];exact⟨h1,h2⟩
theorem KV.put{ao:List (κ×V)}{vs:List (κ×Value)}(r:KV ao vs)(k:κ)(ry:RelV y u):KV (putK ao k y) (stored vs k u):=by
  unfold putK stored;rw[r.any k];by_cases e:(vs.any fun kv=>decide (kv.1=k))=true
  ·rw[ay e,ay e];exact r.Qr k ry
  ·rw[az e,az e];exact Paired.snoc r ⟨rfl,ry⟩
theorem KV.length{ao:List (κ×V)}{vs:List (κ×Value)}(r:KV ao vs):ao.length=vs.length:=pJ r
end
theorem Eh{k:Key}(r:RelV (kV k) u):(cI P w).is k u=true:=by
  cases k with
  |inl i=>obtain⟨t,e⟩:=(show ∃t,u=Value.int i t from r);subst e;exact zz P w i t
  |inr x=>obtain⟨t,e⟩:=(show ∃t,u=Value.str x t from r);subst e;exact zA P w x t
theorem w5{P:Program}{w:World}:∀{ks:List Key} {us:cv},Vals (ks.map kV) us→ItemsAre (cI P w) ks us
  |[],_,r=>by rw[rq] at r;cases r;exact .nil
  |k::ks,_,r=>by
   rw[cB] at r;cases r with
   |cons h t=>exact .cons (Eh h) (w5 t)
abbrev KT(H:Hp):List (List Key×V)→List (List Key×Addr×Value)→Prop:=Paired fun p q=>p.1=q.1∧H q.2.1=some (.tup (p.1.map kV))∧RelV p.2 q.2.2
theorem KT.val(r:KT H ao xs)(k:List Key):lQ (nM ao k) ((atKey xs k).map (·.2)):=by
  induction r with
  |nil=>exact True.intro
  |@cons p q ps qs h t ih =>
   obtain⟨h1,_,h2⟩:=h;by_cases e:p.1=k
   · have e':q.1=k:=h1.symm.trans e;have b:atKey (q::qs) k=some q.2:=by simp[atKey,rm,e']
     rw[pR e,b];exact h2
   · have e':¬ q.1=k:=fun z=>e (h1.trans z);have b:atKey (q::qs) k=atKey qs k:=by simp[atKey,rm,e']
     rw[pS e,b];exact ih
theorem KT.Qr(r:KT H ao xs)(k:List Key)(ry:RelV y u):KT H (ao.map fun kv=>if kv.1=k then(kv.1,y) else kv) (xs.map (putAt k u)):=by
  induction r with
  |nil=>exact .nil
  |@cons p q ps qs h t ih =>
   rw[cB,cB];refine .cons ?_ ih;obtain⟨h1,h2,h3⟩:=h;unfold putAt;by_cases e:p.1=k
   ·rw[ay e,ay (h1.symm.trans e)];exact⟨h1,h2,ry⟩
   ·rw[az e,az (fun z=>e (h1.trans z))];exact⟨h1,h2,h3⟩
theorem KT.put(r:KT H ao xs)(k:List Key)(hb:H b=some (.tup (k.map kV)))(ry:RelV y u):KT H (putK ao k y) (storedH xs k b u):=by
  have e:(ao.any fun kv=>decide (kv.1=k))=(atKey xs k).isSome:=by rw[zP,(r.val k).Gj,Option.isSome_map]
  unfold putK storedH;rw[e];by_cases q:(atKey xs k).isSome=true
  ·rw[ay q,ay q];exact r.Qr k ry
  ·rw[az q,az q];exact Paired.snoc r ⟨rfl,hb,ry⟩
theorem KT.keeps(r:KT H ao xs)(ht:∀b ys,H b=some (.tup ys)→H' b=some (.tup ys)):KT H' ao xs :=
  Paired.HG r fun _ _ z=>⟨z.1,ht _ _ z.2.1,z.2.2⟩
section
variable {P:Program} {w:World} {H:Hp} {h:Heap} {a:Addr}
theorem IA{u:HO}(ok:oA P w H h)(e:Rd H a u):bR P w H h a u:=e.ok ok
theorem zQ{ao:List (Key×V)}(ok:oA P w H h)(e:Rd H a (.dK ao)):ao.length≤sizeLine∧(a==sysModules)=false∧∃vs,KV ao vs∧h.DictOf (cI P w) a vs :=
  show bR P w H h a (.dK ao) from IA ok e
theorem TV{ao:List (Key×V)}(ok:oA P w H h)(e:H a=some (.dK ao)):ao.length≤sizeLine∧(a==sysModules)=false∧∃vs,KV ao vs∧h.DictOf (cI P w) a vs:=zQ ok (.inl e)
theorem xY{ks:List Key}(ok:oA P w H h)(e:H a=some (.tup (ks.map kV))):(tupleKind (cI P w)).is h ks a:=by
  obtain⟨_,its,r,o,h1,h2,n,h3⟩:=(show bR P w H h a (.tup (ks.map kV)) from ok a _ e)
  exact⟨o,its.toArray,n,h1,h2,h3,by simpa using w5 r⟩
theorem zR(ok:oA P w H h)(e:Rd H a (.dT ao)):ao.length≤sizeLine∧(a==sysModules)=false∧∃xs,KT H ao xs∧h.DictOfH (tupleKind (cI P w)) a xs:=by
  obtain⟨z,y,xs,r,o,es,ep,h1,h2,h3,h4,h5⟩:=(show bR P w H h a (.dT ao) from IA ok e)
  refine⟨z,y,xs,r,o,es,ep,h1,h2,h3,h4,fun x hx=>?_,h5⟩;have all:∀{l:List (List Key×V)} {m:List (List Key×Addr×Value)},KT H l m→∀x∈m,(tupleKind (cI P w)).is h x.1 x.2.1:=by
    intro l m q;induction q with
    |nil=>intro x hx;exact nomatch hx
    |@cons p q ps qs hq t ih =>
     intro x hx;rcases dm.mp hx with e|hx
     ·subst e;exact xY ok (by rw[←hq.1];exact hq.2.1)
     ·exact ih x hx
  exact all r x hx
theorem TX(ok:oA P w H h)(e:H a=some (.dT ao)):ao.length≤sizeLine∧(a==sysModules)=false∧∃xs,KT H ao xs∧h.DictOfH (tupleKind (cI P w)) a xs:=zR ok (.inl e)
end
def Gk(H:Hp)(a:Addr)(y:V)(r:Option V):Prop :=
  (∃ao k,Rd H a (.dK ao)∧y=kV k∧r=nM ao k)∨∃ao k b,Rd H a (.dT ao)∧y=.ref b∧H b=some (.tup (k.map kV))∧r=nM ao k
def Gn(H:Hp)(a:Addr)(y v:V)(H':Hp):Prop :=
  (∃ao k,H a=some (.dK ao)∧y=kV k∧ao.length<sizeLine∧H'=upd H a (.dK (putK ao k v))) ∨
  ∃ao k b,H a=some (.dT ao)∧y=.ref b∧H b=some (.tup (k.map kV))∧ao.length<sizeLine∧H'=upd H a (.dT (putK ao k v))
theorem Gn.t{k:List Key}(e:H a=some (.dT ao))(eb:H b=some (.tup (k.map kV)))(hl:ao.length<sizeLine):Gn H a (.ref b) v (upd H a (.dT (putK ao k v))):=.inr ⟨ao,k,b,e,rfl,eb,hl,rfl⟩
section
variable {X:Cx} {pins:gu} {σ:St} {H:Hp} {s:Shared} {a:Addr} {y v:V} {u r:Value} {o:Option V} {A:Around} {E:fR}
theorem Inv.big(I:Inv X pins σ H s):sysModules<s.heap.objs.size:=by have h:mainGlobals<s.heap.objs.size:=(I.mod.glob.keeps I.bk).lt;exact Nat.lt_trans (by decide) h
theorem Gp(hu:A.units+1<cLine)(I:Inv X pins σ H s)(g:Gk H a y (some v))(ry:RelV y u)(h:∀w' s',Inv X pins σ H s'→RelV v w'→Q w' s'):wpAny (model X.prog X.w) A (getItem (.ref a) u) Q E s:=by
  rcases g with⟨ao,k,e,ey,l⟩|⟨ao,k,b,e,ey,eb,l⟩
  ·subst ey;obtain⟨z,hd,vs,rel,dd⟩:=zQ I.bU e;obtain⟨w',hw,Ir⟩:=lQ.some_of (v:=v) (o:=valueAt vs k) (by rw[l];exact rel.val k);exact wpAny_getItem_of (Eh ry) dd.mapOf hw (h w' _ (I.tok _) Ir)
  ·subst ey;cases(show u=Value.ref b from ry);obtain⟨z,hd,xs,rel,dd⟩:=zR I.bU e;obtain⟨w',hw,Ir⟩:=lQ.some_of (v:=v) (o:=(atKey xs k).map (·.2)) (by rw[l];exact rel.val k);obtain⟨p,hp,Ss⟩:=iB.mp hw;refine wpAny_getItem_heap (tupleKind_room_in1 hu) (xY I.bU eb) dd hp ?_;rw[Ss];exact h w' _ (I.tok _) Ir
theorem Ei{ob:HO}(I:Inv X pins σ H s)(mu:Si (H a))(hs:Heap.SameBut a s.heap h')(he:∃q,h'.get? a=some q)(new:bR X.prog X.w (upd H a ob) h' a ob):Inv X pins σ (upd H a ob) { s with heap:=h',toks:=t' } :=
  I.write (x:=a) (e:=a) mu (.inl rfl) (fun b q hb z=>(hs.2 b hb).trans z) he new
theorem Qs{ao:List (Key×V)}{vs:List (Key×Value)}(z:ao.length≤sizeLine)(hd:(a==sysModules)=false)(rel:KV ao vs)(dd:h'.DictOf (cI P w) a vs):bR P w H' h' a (.dK ao):=⟨z,hd,vs,rel,dd⟩
theorem Gq{Q:Unit→Shared→Prop}(hu:A.units+1<cLine)(I:Inv X pins σ H s)(g:Gn H a y v H')(ry:RelV y u)(rv:RelV v r)(h:∀s',Inv X pins σ H' s'→Q () s'):wpAny (model X.prog X.w) A (setItem (.ref a) u r) Q E s:=by
  rcases g with⟨ao,k,e,ey,l,eH⟩|⟨ao,k,b,e,ey,eb,l,eH⟩
  · subst ey eH;obtain⟨z,hd,vs,rel,dd⟩:=TV I.bU e;have hz:vs.length≤sizeLine:=by rw[←rel.length];exact z
    have hl:(putK ao k v).length≤sizeLine:=by have:=jK ao k v;omega
    refine wpAny_setItem_pairs (hsz:=hz) (Eh ry) dd fun h' VP hs=>h _ ?_;have he:∃q,h'.get? a=some q:=let ⟨q,_,_,hq,_⟩:=VP;⟨q,hq⟩
    exact Ei I (by rw[e];exact True.intro) hs he (Qs hl hd (rel.put k rv) VP)
  · subst ey eH;cases(show u=Value.ref b from ry);obtain⟨z,hd,xs,rel,dd⟩:=TX I.bU e;have hz:xs.length≤sizeLine:=by rw[←pJ rel];exact z
    have hl:(putK ao k v).length≤sizeLine:=by have:=jK ao k v;omega
    refine wpAny_setItem_heap (hsz:=hz) (tupleKind_room_in1 hu) (xY I.bU eb) dd fun h' VP hs=>h _ ?_;obtain⟨q,es,ep,hq,h2,h3,h4,_,h5⟩:=VP;refine Ei I (by rw[e];exact True.intro) hs ⟨q,hq⟩ ⟨hl,hd,_,(rel.put k eb rv).keeps fun c ys ec=>?_,q,es,ep,hq,h2,h3,h4,h5⟩;rw[ai (mr ec e (fun z=>nomatch z))];exact ec
end
def Qt(i:Expr):Prop:=∀ov iv,subscripted i false ov iv=operate [ov,iv] (getItem ov iv)
theorem Ms{prog:Program}{env:Env}{value slice:Expr}{id:String}(hl:typeLookup (.type T) "__getitem__"=pure (some (.builtin id)))(hs:Qt slice)(h:wpAny (model prog w) A (eval value env) (fun o s₁=>wpAny (model prog w) A (eval slice env) (fun i s₂=>s₂.TypeIs o T∧wpAny (model prog w) A (getItem o i) Q E s₂) E s₁) E s):wpAny (model prog w) A (eval (.Subscript value slice pos) env) Q E s:=by
  refine Subscript_ (mq h (fun o s₁ h₁=>mq h₁ (fun i s₂ h₂=>?_) fun _ _ x=>x) fun _ _ x=>x);obtain⟨hT,h₂⟩:=h₂;unfold subscriptTail;refine aT ?_;rw[getitemInPython_of_ne hT.not_modules];refine aT (wpAny_specialOf hT hl ?_);have fin:wpAny (model prog w) A (subscripted slice false o i) (fun r s₃=>wpAny (model prog w) A (letTemporaryGo value o r>>=fun _=>pure r) Q E s₃) E s₂:=by rw[hs o i];exact wpAny_operating (mq h₂ (fun r s₃ h₃=>aT (wpAny_letTemporaryGo (cu h₃))) fun _ _ x=>x)
  first
    |exact cu (aT fin)
    |exact aT (cu (aT fin))
    |exact aT fin
theorem zS{o:Option V}(I:Inv X pins σ H s)(g:Gk H a y o):s.TypeIs (.ref a) "dict":=by
  rcases g with⟨ao,k,e,_,_⟩|⟨ao,k,b,e,_,_,_⟩
  ·obtain⟨_,_,vs,_,dd⟩:=zQ I.bU e;exact dd.typeIs
  ·obtain⟨_,_,xs,_,dd⟩:=zR I.bU e;exact dd.typeIs
def TY(td ty:TE):TE:=fun σ H Q=>td σ H fun x H1=>ty σ H1 fun y H2=>∃a v,x=.ref a∧Gk H2 a y (some v)∧Q v H2
def T1(td ty tv:TE):TS:=fun D σ H=>tv σ H fun v H1=>td σ H1 fun x H2=>ty σ H2 fun y H3=>∃a H4,x=.ref a∧Gn H3 a y v H4∧D.nx σ H4
section
variable {X:Cx} {o i e value:Expr} {pos pos' uk:Pos} {td ty tv:TE}
theorem Mt(hu:X.A.units+1<cLine)(ho:PE X o td)(hi:PE X i ty)(hs:Qt i):PE X (.Subscript o i pos) (TY td ty):=by intro pins s σ H Q I h;refine Ms PySem.F.slot_dict_getitem.lookup hs (cQ (ho pins s σ H _ I h) fun u s1 ⟨x,H1,I1,rx,q1⟩=>cQ (hi pins s1 σ H1 _ I1 q1) fun iv s2 ⟨y,H2,I2,ry,a,v,ex,g,q2⟩=>?_);subst ex;obtain rfl:u=Value.ref a:=rx;exact⟨zS I2 g,Gp hu I2 g ry fun w' s3 I3 Ir=>⟨v,H2,I3,Ir,q2⟩⟩
theorem Ej(hu:X.A.units+1<cLine)(ho:PE X o td)(hi:PE X i ty)(hv:PE X value tv)(hs:swapsWith value (some (.Subscript o i pos')) pos.line X.env=pure false):PS X (.Assign [.Subscript o i pos'] value pos) (T1 td ty tv):=by
  intro pins s σ H D I h;refine wpAny_Assign_Subscript (cQ (hv pins s σ H _ I h) fun r s1 ⟨v,H1,I1,rv,q1⟩=>cQ (ho pins s1 σ H1 _ I1 q1) fun u s2 ⟨x,H2,I2,rx,q2⟩=>cQ (hi pins s2 σ H2 _ I2 q2) fun iv s3 ⟨y,H3,I3,ry,a,H4,ex,g,q3⟩=>?_) hs;subst ex;obtain rfl:u=Value.ref a:=rx;exact Gq hu I3 g ry rv fun s4 I4=>⟨σ,H4,I4,q3⟩
end
theorem IB(h:Heap)(hb:sysModules<h.objs.size):bR P w H (h.push { cls:=.type "dict",data:=.dict #[] }) h.objs.size (.dT []) :=
  ⟨iC _,beq_eq_false_iff_ne.mpr (dq (dw hb)),[],.nil,_,#[],0,cT _ rfl,⟨rfl,rfl,rfl⟩,rfl,rfl,List.nodup_nil⟩
def Qu:TE:=fun _ H Q=>∀p,H p=none→Q (.ref p) (upd H p (.dT []))
section
variable {X:Cx} {pos:Pos}
theorem pT:PE X (.Dict [] [] pos) Qu:=fun pins s σ H Q I h =>
  wpAny_Dict_empty ⟨.ref s.heap.objs.size,_,I.laid (a:=s.heap.objs.size) (o:=.dT []) (t':=s.toks) (fun _ _ q=>eo _ q) (bG _) (IB s.heap I.big),rfl,h _ (I.bU.fresh (bG _))⟩
end
structure M1 (X:Cx) (o:Expr) (m:Str) (apos:Pos) (e:Expr) (aX:Pos):Prop where
  base:attributeBase o m X.env (eval o X.env)=eval o X.env
  few:((backTo aX (starEach [e] X.env)).all (fun x=>!x.1)&&(backToKw aX (keywordEach [] X.env)).all (fun x=>x.1.isSome)
    && decide (([e]:List Expr).length+([]:List Keyword).length+(if ([]:List Keyword).isEmpty then 0 else 1)<30))=true
  line:(apos.endLine==aX.line)=true
  trees:backTo aX (starEach [e] X.env)=[(false,eval e X.env)]
structure M2 (X:Cx) (o:Expr) (m:Str) (apos:Pos) (e f:Expr) (aX:Pos):Prop where
  base:attributeBase o m X.env (eval o X.env)=eval o X.env
  few:((backTo aX (starEach [e,f] X.env)).all (fun x=>!x.1)&&(backToKw aX (keywordEach [] X.env)).all (fun x=>x.1.isSome)
    && decide (([e,f]:List Expr).length+([]:List Keyword).length+(if ([]:List Keyword).isEmpty then 0 else 1)<30))=true
  line:(apos.endLine==aX.line)=true
  trees:backTo aX (starEach [e,f] X.env)=[(false,eval e X.env),(false,eval f X.env)]
def ZU(H:Hp)(a:Addr):Prop:=(∃ao,Rd H a (.dK ao))∨∃ao,Rd H a (.dT ao)
theorem Qv(I:Inv X pins σ H s)(d:ZU H a):s.TypeIs (.ref a) "dict"∧(∀b,Value.ref a=.ref b→∃ob,s.heap.get? b=some ob∧ob.dict=none)∧(a==sysModules)=false:=by
  rcases d with⟨ao,e⟩|⟨ao,e⟩
  ·obtain⟨_,hd,vs,_,dd⟩:=zQ I.bU e;refine⟨dd.typeIs,fun b q=>?_,hd⟩;cases q;obtain⟨ob,_,_,h1,h2,_⟩:=dd;exact⟨ob,h1,h2.2.1⟩
  ·obtain⟨_,hd,xs,_,dd⟩:=zR I.bU e;refine⟨dd.typeIs,fun b q=>?_,hd⟩;cases q;obtain⟨ob,_,_,h1,h2,_⟩:=dd;exact⟨ob,h1,h2.2.1⟩
section
variable {X:Cx} {pins:gu} {σ:St} {H:Hp} {s:Shared} {a:Addr} {y d:V} {u r:Value} {o:Option V} {A:Around} {E:fR}
theorem Qw(hu:A.units+1<cLine)(I:Inv X pins σ H s)(g:Gk H a y o)(ry:RelV y u)(rd:RelV d r)(h:∀w' s',Inv X pins σ H s'→RelV (o.getD d) w'→Q w' s'):wpAny (model X.prog X.w) A (call (.builtin "dict.get") [.ref a,u,r]) Q E s:=by
  rcases g with⟨ao,k,e,ey,l⟩|⟨ao,k,b,e,ey,eb,l⟩
  ·subst ey;obtain⟨z,hd,vs,rel,dd⟩:=zQ I.bU e;refine call_meetsIn PySem.F.slot_dict_get dd.typeIs PySem.F.entry_dict_get (PySem.F.args_dict_get_3 _ _ _) (meets_dict_get_default (cI X.prog X.w) a (Eh ry) hd r) ⟨_,dd.mapOf,h _ _ (I.tok _) ?_⟩;rw[l];exact(rel.val k).getD rd
  ·subst ey;cases(show u=Value.ref b from ry);obtain⟨z,hd,xs,rel,dd⟩:=zR I.bU e;refine call_meetsIn PySem.F.slot_dict_get dd.typeIs PySem.F.entry_dict_get (PySem.F.args_dict_get_3 _ _ _) (meetsH_dict_get_default (tupleKind (cI X.prog X.w)) a b hd r) ⟨tupleKind_room_in1 hu,k,xs,xY I.bU eb,dd,h _ _ (I.tok _) ?_⟩;rw[l];exact(rel.val k).getD rd
end
def Qx(td ty tx:TE):TE:=fun σ H Q=>td σ H fun x H1=>∃a,x=.ref a∧ZU H1 a∧ty σ H1 fun y H2=>tx σ H2 fun z H3=>∃o,Gk H3 a y o∧Q (o.getD z) H3
section
variable {X:Cx} {o e f:Expr} {apos aX:Pos} {td ty tx:TE}
theorem zT(hu:X.A.units+1<cLine)(ho:PE X o td)(he:PE X e ty)(hf:PE X f tx)(m:M2 X o "get" apos e f aX):PE X (.Call (.Attribute o "get" apos) [e,f] [] aX) (Qx td ty tx):=by
  intro pins s σ H Q I h;refine wpAny_Call_method m.base m.few m.line PySem.F.plainAttrs_dict PySem.F.slot_dict_get PySem.F.type_dict_get (cQ (ho pins s σ H _ I h) fun u s1 ⟨x,H1,I1,rx,a,ex,d,q1⟩=>?_);subst ex;obtain rfl:u=Value.ref a:=rx;obtain⟨t1,t2,_⟩:=Qv I1 d;refine⟨t1,t2,?_⟩;rw[m.trees];refine Calls.callWith_builtin rfl (Calls.evalArgs_plain (v9 (cQ (he pins s1 σ H1 _ I1 q1) fun iv s2 ⟨y,H2,I2,ry,q2⟩ =>
    v9 (cQ (hf pins s2 σ H2 _ I2 q2) fun fv s3 ⟨z,H3,I3,rz,ov,g,q3⟩=>xG ?_))))
  exact Qw hu I3 g ry rz fun w' s4 I4 Ir=>⟨_,H3,I4,Ir,q3⟩
end
end L2
namespace ZV
open PySem PySem.W PySem.Calls PyProof.Rows
theorem tu{P:Params}:∀(ns:bK) (vs:cv),WellAll P h vs (ns.map WData.int)→IntsAre vs ns:=by
  intro ns;induction ns with
  |nil=>intro vs w;rw[rq] at w;cases w;exact .nil
  |cons n ns ih =>
   intro vs w;rw[cB] at w;cases w with
   |cons a b=>cases a;exact .cons _ _ (ih _ b)
theorem Gs{l:OpenLaw}(hn:l.most=some n){P:Params}{args:List WData}{vals:cv}(Mu:l.row.toRowW.claim.pre args=true)(W6:WellAll P h vals args):∃a vs ns,vals=[Value.ref a]∧args=[WData.list (ns.map WData.int)]∧h.get? a=some { cls:=.type "list",data:=.seq vs.toArray }∧IntsAre vs ns∧ns.length≤n:=by
  have hsh:WShape.hasAll [] args [.list .int]=true:=(pre_splitW Mu).1;have hc:l.pre.holds [] { args:=args }=true:=(pre_splitW Mu).2;obtain⟨d,r,rfl,h1,h2⟩:=hasAllW_cons hsh;obtain rfl:=hasAllW_nil h2;obtain⟨xs,rfl,h3⟩:=hasW_list h1;obtain⟨ns,rfl⟩:=items_int h3;have hlen:ns.length≤n:=by
    unfold OpenLaw.pre at hc;have h4:(WTm.not (.lt (.lit (.int (n:Int))) (.len (.arg 0)))).holds [] { args:=[.list (ns.map .int)] }=true:=by have h4:=(holds_andW hc).1;rw[hn] at h4;exact h4
    have h5:=condW_of h4 (w_not (w_lt w_lit (w_len_list (w_arg rfl))));rw[fG] at h5;refine Nat.le_of_not_lt fun q=>?_;have q':(n:Int)<((ns.length:Nat):Int):=by omega
    first
      |(rw[mh q'] at h5;exact absurd h5 (by decide))
      |(simp at h5;omega)
  cases W6 with
  |cons w1 w2 =>
   cases w2;cases w1 with
   |list ho oG=>exact⟨_,_,ns,rfl,rfl,ho,tu ns _ oG,hlen⟩
theorem Gu(l:OpenLaw)(args:List WData):l.row.toRowW.claim.post args (.bool true) args=true :=
  postW_of (r:=l.row.toRowW) (X:=(true==true))
    (show WShape.has [] (.bool true) .bool=true by first|rfl|decide|simp[WShape.has,WShape.arms,WShape.armsAll])
    (show(WTm.eq .res (.lit (.bool true))).value [] { args:=args,res:=some (.bool true),after:=args }=some (.bool (true==true)) from w_eq_bool (w_res rfl) w_lit) rfl
theorem zU{l:OpenLaw}{q:Program}{loose:dC}{d:DefRec}(hn:l.most=some n)(T2:d.params.defaults=[])(call:∀(w:World) (s₀ s₁:Shared) (mg mb:Str→fu) (fa:Addr) (o:Obj) (pm cd doc:Value) (a:Addr) (vs:cv) (ns:bK),Ground q loose [] XP w s₀ mg mb s₁.heap→YP w s₁.heap→s₁.heap.get? fa=some o→o.data=.func (docDef d.name d.params d.body d.scope pm cd doc)→s₁.heap.CodeRec cd d.name→mg d.name=some (.ref fa)→s₁.heap.get? a=some { cls:=.type "list",data:=.seq vs.toArray }→IntsAre vs ns→ns.length≤n→s₁.gens=#[]→codeAny (model l.prog w) callerA (.call (.ref fa) ⟨[.ref a],[]⟩) (fun r s'=>r=.ok (.ret (.bool true))∧OldK s₁.heap s'.heap∧s'.os=s₁.os∧AllBare s'.gens) s₁):WalkO q loose XP YP l.row.toRowW d [] (fun f vs=>PySem.call f vs):=by
  intro w s₀ s₁ mg mb G Y fa o pm cd doc dV kV ho hd dR hD T3 hg args vals as Mu hlay hrd W6 hlo;obtain rfl:dV=.none:=Dflts.none hD T2;obtain rfl:kV=.none:=Dflts.noKw hD;obtain⟨a,vs,ns,rfl,rfl,Qy,hints,hlen⟩:=Gs hn Mu W6;refine enter_call (codeAny_mono (call w s₀ s₁ mg mb fa o pm cd doc a vs ns G Y ho (fd_plain hd) dR T3 Qy hints hlen hg) fun r s' hq=>?_);obtain⟨rfl,h2,h3,h4⟩:=hq;exact⟨.inl ⟨.bool true,.bool true,[],rfl,fun _=>rfl,.bool true,Gu l _,fun _=>⟨List.Pairwise.nil,fun _ hm=>(nomatch hm)⟩⟩,h2,h3,h4⟩
end ZV
namespace L2
open PySem PySem.Spec PyProof.Rows
theorem rL:∀{vs:cv} {ns:bK},IntsAre vs ns→Vals (ns.map V.int) vs
  |_,_,.nil=>.nil
  |_,_,.cons n t h=>.cons ⟨t,rfl⟩ (rL h)
def Mv(H:Hp):Prop:=∀b,H b=none∨(∃o xs,H b=some (.gL o (.lst xs))∧xs.length≤sizeLine)∨∃ps,H b=some (.LS ps)
theorem IC{K:PySem.W.Frag}{mb:Str→fu}{CX:Hv}{fa:Addr}{sp:Sp}{s₁:Shared}{vs:cv}(KX:K.In s₁.heap)(Qz:s₁.heap.Ns mainGlobals mg)(hb:s₁.heap.Ns builtinsNs mb)(hbb:∀x:Str,x≠"__name__"→mb x=bootBuiltins x)(W7:s₁.heap.NoLimit)(hg:s₁.gens=#[])(ha:s₁.heap.get? a=some { cls:=.type "list",data:=.seq vs.toArray })(hi:IntsAre vs ns)(hl:ns.length≤sizeLine)(hr:cU k callerA)(F:∀base:Heap,K.In base→base.Ns mainGlobals mg→cD P w K mg base CX k fa fd [x] sp)(T4:∀(s:Shared) (u:Value),BindsTo s fd ⟨[u],[]⟩ [(x,u)])(BW:∀H:Hp,Mv H→eW K H a (ns.map V.int)→sp [.ref a] H (fun v _=>v=.bl true) fun _ _ _=>False)(W8:∀H e s',CX [] H s₁ (fun _ _ _=>False) e s'→False):codeAny (model P w) callerA (.call (.ref fa) ⟨[.ref a],[]⟩) (fun r s'=>r=.ok (.ret (.bool true))∧OldK s₁.heap s'.heap∧s'.os=s₁.os∧AllBare s'.gens) s₁:=by
  have rv:=rL hi;have W9:=hi.length
  -- from an abstract heap in which nothing but the script may be tracked
  have core:∀H:Hp,Mv H→eW K H a (ns.map V.int)→oA P w H s₁.heap→(∀b,H b≠none→b=a)→(H a≠none→K.lookup a=none) →
      codeAny (model P w) callerA (.call (.ref fa) ⟨[.ref a],[]⟩) (fun r s'=>r=.ok (.ret (.bool true))∧OldK s₁.heap s'.heap∧s'.os=s₁.os∧AllBare s'.gens) s₁:=by
    intro H hO hS bU hA hK;have Ek:∀{b:Addr} {o:Obj},s₁.heap.get? b=some o→H b=none→(xJ s₁.heap H).get? b=some o:=fun e n=>HJ e n;have TH:∀{b:Addr} {o:Obj} {es:Array DictEntry} {ep:Nat},s₁.heap.get? b=some o→o.data=.dict es ep→H b=none:=fun {b o es ep} e d=>by
      cases q:H b with
      |none=>rfl
      |some u=>have e':b=a:=hA b (by rw[q];simp);subst e';rw[ha] at e;cases e;have d':Data.seq vs.toArray _=Data.dict es ep:=d;cases d'
    have VQ:∀{b:Addr} {m:Str→fu},s₁.heap.Ns b m→(xJ s₁.heap H).Ns b m:=fun {b m} ⟨o,es,ep,e,d,r⟩=>⟨o,es,ep,Ek e (TH e d),d,r⟩
    have ZW:K.In (xJ s₁.heap H):=fun b o e=>Ek (KX b o e) (by
      cases q:H b with
      |none=>rfl
      |some u =>
       have e':b=a:=hA b (by rw[q];simp);subst e';rw[hK (by rw[q];simp)] at e;cases e)
    have hM:Mod K mg (xJ s₁.heap H):=⟨ZW,VQ Qz,⟨mb,VQ hb,hbb⟩,let ⟨mc,h1,h2⟩:=W7;⟨mc,VQ h1,h2⟩⟩
    have e0:zH P w K mg (xJ s₁.heap H) callerA [] s₁ H:=⟨rfl,hM,fun b o e=>L3 e,Nat.le_of_eq (FU _ _),trivial,fun b hb=>absurd (show b∈([]:List Addr) from hb) (by simp),bU,.of_eq hg⟩
    refine codeAny_mono ((F _ ZW (VQ Qz)).run callerA [] s₁ H ⟨[.ref a],[]⟩ [.ref a] [.ref a] _ _ hr e0 (T4 s₁ (.ref a)) (.cons rfl .nil) (BW H hO hS)) fun r s' h=>?_;cases r with
    |error e=>exact(W8 H e s' h).elim
    |ok fl =>
     cases fl with
     |next=>exact False.elim h
     |brk=>exact False.elim h
     |cont=>exact False.elim h
     |ret u =>
      obtain⟨v,H',os,bare,un,Xa,r',q⟩:=h;have q':v=.bl true:=q;subst q';obtain rfl:u=Value.bool true:=r';refine⟨rfl,OldK.of_keep fun b o e=>?_,os,bare⟩;cases q:H b with
      |none=>exact un.keep b o e q (by intro z;exact absurd (show b∈([]:List Addr) from z) (by simp)) (by simp)
      |some u =>
       rcases hO b with z|⟨ob,xs,z,_⟩|⟨ps,z⟩
       ·rw[q] at z;cases z
       rotate_left
       · exfalso;have e':b=a:=hA b (by rw[q];simp);subst e';obtain⟨_,_,_,e1,_⟩:=(show bR P w H s₁.heap b (.LS ps) from bU b _ z)
         rw[ha] at e1;cases e1
       ·have z2:=un.oC b ob _ z;obtain⟨e1,_⟩:=bU b _ z;obtain⟨e2,_⟩:=Xa b _ z2;rw[e] at e1;cases e1;exact e2
  cases hk:K.lookup a with
  |some o =>
   -- the script is one of the module's own objects
   have e:=KX a o hk;rw[ha] at e;cases e;refine core (fun _=>none) (fun _=>.inl rfl) (.inr ⟨_,vs.toArray,_,hk,rfl,rfl,rfl,by rw[eE,W9];exact hl,by simpa using rv⟩) (fun b u z=>by have z':(none:Option HO)=some u:=z;cases z') (fun b z=>absurd rfl z) fun z=>absurd rfl z
  |none =>
   refine core (fun b=>if b=a then some (.gL { cls:=.type "list",data:=.seq vs.toArray } (.lst (ns.map V.int))) else none) (fun b=>?_) (.inl (.inr ⟨{ cls:=.type "list",data:=.seq vs.toArray },ay rfl⟩)) (fun b u z=>?_) (fun b z=>?_) fun _=>hk
   · by_cases hb:b=a
     ·exact .inr (.inl ⟨_,_,ay hb,by rw[fG];exact hl⟩)
     ·exact .inl (az hb)
   · by_cases hb:b=a
     ·have z':=(ay hb).symm.trans z;cases z';subst hb;exact⟨ha,by rw[fG];exact hl,vs,_,rv,ha⟩
     ·have z':=(az hb).symm.trans z;cases z'
   · by_cases hb:b=a
     ·exact hb
     ·exact absurd (az hb) z
theorem Mw{l:PySem.W.OpenLaw}{q:Program}{loose:dC}{d:DefRec}{K:Params→PySem.W.Frag}{CX:World→Hv}{sp:World→Sp}(hn:l.most=some n)(VJ:n≤sizeLine)(T2:d.params.defaults=[])(hr:cU k callerA)(hY:∀(w:World) (h:Heap),YP w h→(K w.params).In h)(F:∀(w:World) (mg:Str→fu) (fa:Addr) (h:Heap),(K w.params).In h→h.Ns mainGlobals mg→mg d.name=some (.ref fa)→∃fd:FuncData,(∀(s:Shared) (u:Value),BindsTo s fd ⟨[u],[]⟩ [(x,u)])∧∀base:Heap,(K w.params).In base→base.Ns mainGlobals mg→cD l.prog w (K w.params) mg base (CX w) k fa fd [x] (sp w))(BW:∀(w:World) (H:Hp) (a:Addr) (ns:bK),ns.length≤n→Mv H→eW (K w.params) H a (ns.map V.int)→sp w [.ref a] H (fun v _=>v=.bl true) fun _ _ _=>False)(W8:∀(w:World) (H:Hp) (s:Shared) (e:Value) (s':Shared),CX w [] H s (fun _ _ _=>False) e s'→False):PySem.W.WalkO q loose XP YP l.row.toRowW d [] (fun f vs=>PySem.call f vs):=by
  refine ZV.zU hn T2 fun w s₀ s₁ mg mb fa o pm cd doc a vs ns G Y ho hd dR T3 Qy hints hlen hg=>?_;have KX:=hY w _ Y;obtain⟨fd,hb,hF⟩:=F w mg fa _ KX G.T.g T3;exact IC KX G.T.g G.T.b G.T.builtins G.T.nolimit hg Qy hints (gy hlen VJ) hr hF hb (fun H hO hS=>BW w H a ns hlen hO hS) fun H e s'=>W8 w H s₁ e s'
abbrev mz:Hv:=fun _ _ _ _ _ _=>False
abbrev E0:XK:=fun _ _ _=>False
theorem IE:Passes mz X E0:=fun _ _ _ _ _ _ _ h=>h.elim
structure lW (K:PySem.W.Frag) (x qual:Str) (st:Stmt) (f:Addr) (fd:FuncData):Prop where
  ex:∃(oc:Value) (od:Option Addr) (kV doc pm:Value) (an:Option Addr) (di ct:Value) (wc:Array fu),
    fd=fnOf x qual (bM st) (bA st) (aj st) .none kV doc pm an di ct∧K.lookup f=some ⟨oc,od,.func fd,wc⟩∧codeIn K di qual=true
  kp:keepIn K (.ref f)=true
section
variable {P:Program} {w:World} {K:PySem.W.Frag} {mg:Str→fu} {base:Heap}
theorem lW.ok{st:Stmt}{f:Addr}{ps:dC}{sp:Sp}(F:lW K x qual st f fd)(S:bq N ps (aj st))(len:∀vs H Q E,sp vs H Q E→vs.length=ps.length)(Io:∀(di:Value) (A:Around) (outer:List Env) (s:Shared) (H:Hp) (vs:List V) (Q:VK) (E:XK),cU k (A.deeper (envOfC qual (aj st) s.heap.objs.size f di))→sp vs H Q E→∃t,xM (wg mz P w K mg base N qual (aj st) f di A outer s H E).LW (bA st) t∧t { nx:=fun _ H'=>Q .non H',rt:=Q } (start N vs) H):cD P w K mg base mz (k+1) f fd ps sp:=by
  obtain⟨oc,od,kV,doc,pm,an,di,ct,wc,rfl,lk,dR⟩:=F.ex;refine Im lk dR S len fun A outer s H vs Q E hr BW=>?_;obtain⟨t,h,q⟩:=Io di A outer s H vs Q E hr BW;exact⟨t,h.LW,q⟩
theorem lW.binds{st:Stmt}{f:Addr}{ps:dC}(F:lW K x qual st f fd)(h:∀(kV doc pm:Value) (an:Option Addr) (di ct:Value) (us:cv),us.length=ps.length→bindArgs (fnOf x qual (bM st) (bA st) (aj st) .none kV doc pm an di ct) ⟨us,[]⟩=pure (ps.zip us)):Binds K fd ps []:=by
  obtain⟨oc,od,kV,doc,pm,an,di,ct,wc,rfl,lk,dR⟩:=F.ex;exact .all (h kV doc pm an di ct)
theorem xZ{st:Stmt}{f:Addr}{oc:Value}{kV doc pm di ct:Value}(l:K.lookup f=some ⟨oc,od,.func (fnOf x qual (bM st) (bA st) (aj st) .none kV doc pm an di ct),wc⟩)(c:codeIn K di qual=true)(k:keepIn K (.ref f)=true):lW K x qual st f (fnOf x qual (bM st) (bA st) (aj st) .none kV doc pm an di ct):=⟨⟨oc,od,kV,doc,pm,an,di,ct,wc,rfl,l,c⟩,k⟩
end
theorem nT(hr:cU k A):A.units+1<cLine:=Nat.lt_of_le_of_lt (Nat.add_le_add_left (by decide:1≤64) _) hr.units
theorem eF(h:n≤1000):n<sizeLine:=Nat.lt_of_le_of_lt h (by decide)
section
variable {X:Cx}
theorem pv(i:Nat)(hN:X.N[i]?=some x:=by rfl)(hv:pL X.env.scope x:=by first|exact Or.inl rfl|exact Or.inr (Or.inl rfl)|exact Or.inr (Or.inr rfl))(hd:(x==("__debug__":Str))=false:=by decide)(dR:(x==("__classdict__":Str))=false:=by decide):PE X (.Name x pos) (jY i):=cM hN hv hd dR
end
theorem QB{A B:Prop}(h:B):if false=true then A else B:=by rw[az gP];exact h
theorem T5{A B:Prop}(h:A):if true=true then A else B:=by rw[ay rfl];exact h
def bH(H H':Hp):Prop:=∀b o,H b=some o→H' b=some o
theorem bH.refl(H:Hp):bH H H:=fun _ _ h=>h
theorem bH.trans{H1 H2:Hp}(a:bH H H1)(b:bH H1 H2):bH H H2:=fun c o h=>b c o (a c o h)
theorem bH.free(e:bH H H'){l:Addr}(h:H' l=Option.none):H l=Option.none:=by
  cases q:H l with
  |none=>rfl
  |some o=>rw[e l o q] at h;cases h
theorem bH.seq{K:PySem.W.Frag}{xs:List V}(e:bH H H')(h:eW K H a xs):eW K H' a xs:=by
  rcases h with(h|⟨o,h⟩)|h
  ·exact .inl (.inl (e _ _ h))
  ·exact .inl (.inr ⟨o,e _ _ h⟩)
  ·exact .inr h
section
variable {κ:Type} [DecidableEq κ]
theorem x5:∀{l:List κ} {k:κ},l.Nodup→¬ k∈l→(l++[k]).Nodup
  |[],k,_,_=>by simp
  |a::r,k,h,hk=>by
   obtain⟨h1,h2⟩:=List.nodup_cons.mp h;show(a::(r++[k])).Nodup;refine List.nodup_cons.mpr ⟨fun m=>?_,x5 h2 fun m=>hk (dm.mpr (Or.inr m))⟩;rcases md.mp m with q|q
   ·exact h1 q
   ·exact hk (dm.mpr (Or.inl (List.mem_singleton.mp q).symm))
end
def iF(cells:List (Str×Addr)):List (Str×NameKind)→List (Str×Addr)→List (Str×Addr)
  |[],acc=>acc
  |(n,k)::r,acc=>iF cells r (match k,cells.lookup n with|.free,some c=>(n,c)::acc|_,_=>acc)
theorem wq{scope:Scope}{env:Env}(h:∀x∈scope.names,x.2=.free→∃c,env.cells.lookup x.1=some c):closureFor scope env=pure (iF env.cells scope.names []):=by
  have go:∀(names:List (Str×NameKind)) (acc:List (Str×Addr)),(∀x∈names,x.2=.free→∃c,env.cells.lookup x.1=some c) →
      (forIn names acc (fun(x:Str×NameKind) (cs:List (Str×Addr))=>if (x.2==NameKind.free)=true then(do let c ←cellOf env x.1;pure (ForInStep.yield ((x.1,c)::cs)):Sem _) else pure (ForInStep.yield cs)):Sem (List (Str×Addr)))=pure (iF env.cells names acc):=by
    intro names;induction names with
    |nil=>intro acc _;rfl
    |cons x r ih =>
     intro acc hx;obtain⟨n,k⟩:=x;rw[List.forIn_cons];by_cases hk:k=.free
     · subst hk;obtain⟨c,hc⟩:=hx (n,.free) eR rfl;have e:cellOf env n=pure c:=by unfold cellOf;rw[hc]
       simp only[beq_self_eq_true,cw,e,pure_bind];rw[ih _ fun y hy=>hx y (et _ hy)];simp[iF,hc]
     · have hb:(k==NameKind.free)=false:=by simpa using hk
       simp only[hb,uh,jJ,pure_bind];rw[ih _ fun y hy=>hx y (et _ hy)]
       congr 1
       cases k<;>first|exact absurd rfl hk|rfl
  have g:=go scope.names [] h;unfold closureFor;rw[show(fun(x:Str×NameKind) (r:List (Str×Addr))=>_)=_ from rfl] at g;refine Eq.trans ?_ g
  first|rfl|exact bind_pure _|(simp only[bind_pure];rfl)
theorem uo(cells:List (Str×Addr)):∀(names:List (Str×NameKind)) (acc:List (Str×Addr)) (x:Str) (c:Addr),(∀y d,acc.lookup y=some d→cells.lookup y=some d)→(iF cells names acc).lookup x=some c→cells.lookup x=some c
  |[],acc,x,c,ha,h=>ha x c h
  |(n,k)::r,acc,x,c,ha,h=>by
   refine uo cells r _ x c (fun y d hy=>?_) h;split at hy
   · rename_i e1 e2;rw[List.lookup_cons] at hy;cases hb:y==n with
     |true=>rw[hb] at hy;cases hy;have:y=n:=by simpa using hb
            rw[this];exact e2
     |false=>rw[hb] at hy;exact ha y d hy
   ·exact ha y d hy
theorem sQ(cells:List (Str×Addr)):∀(names:List (Str×NameKind)) (acc:List (Str×Addr)) (x:Str) (c:Addr),(∀y d,acc.lookup y=some d→cells.lookup y=some d)→cells.lookup x=some c→acc.lookup x=some c→(iF cells names acc).lookup x=some c
  |[],acc,x,c,ha,hc,h=>h
  |(n,k)::r,acc,x,c,ha,hc,h=>by
   refine sQ cells r _ x c (fun y d hy=>?_) hc ?_
   · split at hy
     · rename_i e1 e2;rw[List.lookup_cons] at hy;cases hb:y==n with
       |true=>rw[hb] at hy;cases hy;have:y=n:=by simpa using hb
              rw[this];exact e2
       |false=>rw[hb] at hy;exact ha y d hy
     ·exact ha y d hy
   · split
     · rename_i e1 e2;rw[List.lookup_cons];cases hb:x==n with
       |true=>have:x=n:=by simpa using hb
              rw[this,e2] at hc;rw[hc]
       |false=>exact h
     ·exact h
theorem oH(cells:List (Str×Addr)):∀(names:List (Str×NameKind)) (acc:List (Str×Addr)) (x:Str) (c:Addr),(∀y d,acc.lookup y=some d→cells.lookup y=some d)→cells.lookup x=some c→(x,NameKind.free)∈names→(iF cells names acc).lookup x=some c
  |[],acc,x,c,ha,hc,h=>nomatch h
  |(n,k)::r,acc,x,c,ha,hc,h=>by
   have O7:∀y d,(match k,cells.lookup n with|.free,some c=>(n,c)::acc|_,_=>acc:List (Str×Addr)).lookup y=some d→cells.lookup y=some d:=fun y d hy=>by
     split at hy
     · rename_i e1 e2;rw[List.lookup_cons] at hy;cases hb:y==n with
       |true=>rw[hb] at hy;cases hy;have:y=n:=by simpa using hb
              rw[this];exact e2
       |false=>rw[hb] at hy;exact ha y d hy
     ·exact ha y d hy
   rcases dm.mp h with e|h
   ·injection e with e1 e2;subst e1 e2;refine sQ cells r _ _ c O7 hc ?_;rw[hc];simp[List.lookup_cons]
   ·exact oH cells r _ x c O7 hc h
theorem T6{a b c:Nat}(h:a<b)(e:c=b+1):a≠c:=by omega
theorem Xb{a b c:Nat}(h:a<b)(e:c=b+1):a<c:=by omega
theorem IG{x d a:Nat}(h:x<d)(h2:d≤a)(e:x=a):False:=by omega
theorem lookup_mem{α:Type}:∀{l:List (Str×α)} {x:Str} {k:α},l.lookup x=some k→(x,k)∈l
  |[],_,_,h=>by simp at h
  |(n,j)::r,x,k,h=>by
   rw[List.lookup_cons] at h;cases hb:x==n with
   |true =>
    rw[hb] at h;have e:x=n:=by simpa using hb
    cases h;rw[e];exact eR
   |false=>rw[hb] at h;exact et _ (lookup_mem h)
theorem mB{env:Env}:∀(names:List (Str×NameKind)) (x:Str),(names.map fun(n,k)=>if (k==NameKind.free&&env.scope.kind==.function&&env.kindOf n==some .cell) then(n,NameKind.cell) else(n,k)).lookup x=(names.lookup x).map fun k=>if (k==NameKind.free&&env.scope.kind==.function&&env.kindOf x==some .cell) then NameKind.cell else k:=by
  intro names x;induction names with
  |nil=>rfl
  |cons p r ih =>
   rcases p with⟨n,k⟩
   have one:∀c:Bool,(if c=true then(n,NameKind.cell) else(n,k))=(n,if c=true then NameKind.cell else k):=fun c=>by cases c<;>rfl
   simp only[cB,one,List.lookup_cons];by_cases e:x=n
   ·subst e;simp only[beq_self_eq_true,eD]
   · have f:(x==n)=false:=by simpa using e
     simp only[f];exact ih
def B6(N tgs:dC)(fi:List Nat):dC:=tgs++fi.map fun j=>N.getD j Str.empty
def mC(nt:Nat)(fi:List Nat)(σ:St):St:=List.replicate nt none++fi.map fun j=>(σ[j]?).getD none
def iO(X:Cx)(tgs:dC)(fi:List Nat)(scope:Scope)(C:Addr)(ex:List Addr)(s:Shared)(H:Hp):Cx :=
  { X with N:=B6 X.N tgs fi,s₀:=s,H₀:=H,env:=compEnvC scope (iF X.env.cells scope.names []) C X.env,outer:=X.stack,stack:=X.stack,ex:=ex,fn:=fun _=>false,xe:=fun _ _=>False }
structure fJ (X:Cx) (tgs:dC) (fi:List Nat) (scope:Scope):Prop where
  kind:scope.kind=.function
  cell:∀y∈scope.names,y.2≠.cell
  names:∀y∈scope.names,y.2=.local→scope.names.lookup y.1=some .local
  free:∀y∈scope.names,y.2=.free→X.env.kindOf y.1=some .cell∨X.env.kindOf y.1=some .free
  slots:∀j∈fi,∃x,X.N[j]?=some x∧scope.names.lookup x=some .free
def T7(ZX:Scope)(N:dC)(fi:List Nat)(scope:Scope):Bool :=
  (match scope.kind with|.function=>true|_=>false) &&
  (scope.names.all fun y=>match y.2 with
    |.cell=>false
    |.local=>scope.names.lookup y.1==some NameKind.local
    |.free=>(ZX.names.lookup y.1==some NameKind.cell)||(ZX.names.lookup y.1==some NameKind.free)
    |_=>true) &&
  (fi.all fun j=>match N[j]? with|some x=>scope.names.lookup x==some NameKind.free|none=>false)
theorem fJ.of{tgs:dC}{scope:Scope}(h:T7 X.env.scope X.N fi scope=true):fJ X tgs fi scope:=by
  unfold T7 at h;simp only[oz,eU] at h;obtain⟨⟨h1,h2⟩,h3⟩:=h;refine⟨?_,fun y hy e=>?_,fun y hy e=>?_,fun y hy e=>?_,fun j hj=>?_⟩
  ·cases hk:scope.kind<;>rw[hk] at h1<;>first|rfl|cases h1
  ·have q:=h2 y hy;rw[e] at q;cases q
  ·have q:=h2 y hy;rw[e] at q;simpa using q
  ·have q:=h2 y hy;rw[e] at q;simp only[Bool.or_eq_true,beq_iff_eq] at q;exact q
  · have q:=h3 j hj;cases e:X.N[j]? with
    |none=>rw[e] at q;cases q
    |some x=>rw[e] at q;exact⟨x,rfl,by simpa using q⟩
section
variable {X:Cx} {pins:gu} {σ:St} {H:Hp} {s:Shared} {tgs:dC} {fi:List Nat} {scope:Scope}
theorem fJ.T8(B:fJ X tgs fi scope)(ok:X.Ok):closureFor scope X.env=pure (iF X.env.cells scope.names []) :=
  wq fun y hy hf=>ok.has y.1 (B.free y hy hf)
theorem jg{c:Addr}(h:(iF X.env.cells scope.names []).lookup x=some c):X.env.cells.lookup x=some c :=
  uo _ _ _ _ _ (fun _ _ z=>by simp at z) h
theorem QC(B:fJ X tgs fi scope)(I:Inv X pins σ H s)(hC:s.heap.objs.size≤C)(hex:∀b∈ex,fQ X pins H b)(dY:∀b∈ex,b<C):(iO X tgs fi scope C ex s H).Ok where
  mod:=I.ok.mod
  kind:=B.kind
  glob:=I.ok.glob
  blt:=I.ok.blt
  above:=hC
  inj:=fun x y c h1 h2=>I.ok.inj x y c (jg h1) (jg h2)
  has:=fun x h=>by
    have e:∀k,(relabel scope X.env).names.lookup x=some k→(k=.cell∨k=.free)→(x,NameKind.free)∈scope.names:=fun k hk T9=>by
      have e1:(scope.names.lookup x).map (fun k=>if (k==NameKind.free&&X.env.scope.kind==.function&&X.env.kindOf x==some .cell) then NameKind.cell else k)=some k:=by rw[←mB];exact hk
      cases hl:scope.names.lookup x with
      |none=>rw[hl] at e1;cases e1
      |some j =>
       rw[hl] at e1;have hm:=lookup_mem hl;have e2:(if (j==NameKind.free&&X.env.scope.kind==.function&&X.env.kindOf x==some .cell) then NameKind.cell else j)=k:=jG e1;by_cases hj:j=.free
       ·rw[hj] at hm;exact hm
       · have hb:(j==NameKind.free)=false:=by simpa using hj
         rw[hb] at e2;simp only[Bool.false_and,uh,jJ] at e2;rcases T9 with z|z
         ·exact absurd (e2.trans z) (B.cell _ hm)
         ·exact absurd (e2.trans z) hj
    have hm:(x,NameKind.free)∈scope.names:=by
      rcases h with h|h
      ·exact e _ h (.inl rfl)
      ·exact e _ h (.inr rfl)
    obtain⟨c,hc⟩:=I.ok.has x (B.free _ hm rfl);exact⟨c,oH _ _ _ _ _ (fun _ _ z=>by simp at z) hc hm⟩
  Sl:=fun x c h _=>by cases h
  hd:=I.ok.hd
  frames:=I.ok.frames
  Ta:=.inl rfl
  Ws:=fun b hb=>⟨dw (dY b hb),fun x c e=>(hex b hb).2.2.2.2.1 x c (jg e)⟩
  bs:=I.bs
  L4:=gy I.ok.L4 I.sz
  FW:=fun b o e hb=>by
    rcases(hex b hb).2.2.2.1 with z|z
    ·exact I.ok.FW b o e z
    ·exact absurd (jX (bL (I.ok.bs b o e).1) z) (rn _)
  HK:=fun b hb z=>by
    rcases dm.mp (I.rD b z) with e|e
    ·exact(hex b hb).2.1 e
    ·exact(hex b hb).2.2.1 e
  rC:=I.stack
  OW:=I.D3
theorem II(h:(B6 N tgs fi)[i]?=some x)(hi:tgs.length≤i):∃j,fi[i-tgs.length]?=some j∧x=N.getD j Str.empty:=by
  unfold B6 at h;rw[xB hi,eS] at h;cases e:fi[i-tgs.length]? with
  |none=>rw[e] at h;cases h
  |some j=>rw[e] at h;exact⟨j,rfl,(jG h).symm⟩
theorem El{m:Str→fu}(B:fJ X tgs fi scope)(I:Inv X pins σ H s)(D4:∀x c,X.env.cells.lookup x=some c→∀v,s.heap.IsCell c v→h'.IsCell c v)(Qz:h'.Ns C m):∃m,h'.Ns (iO X tgs fi scope C ex s H).env.locals m∧∀(i:Nat) (x:Str) (v:V),(iO X tgs fi scope C ex s H).N[i]?=some x→(mC tgs.length fi σ)[i]?=some (some v)→pL (iO X tgs fi scope C ex s H).env.scope x→∃u,RelV v u∧Look (iO X tgs fi scope C ex s H).env h' m x u:=by
  refine⟨m,Qz,fun i x v e1 e2 e3=>?_⟩;by_cases hi:i<tgs.length
  · exfalso;have e:(mC tgs.length fi σ)[i]?=some none:=by
      unfold mC;rw[xC (by simpa using hi)];simp[hi]
    rw[e] at e2;cases e2
  · have Hw:tgs.length≤i:=Nat.le_of_not_lt hi;obtain⟨j,hj,hx⟩:=II e1 Hw;obtain⟨y,hy,hf⟩:=B.slots j (zx hj);have exy:x=y:=by
      rw[hx,jb,hy];rfl
    subst exy;have eσ:σ[j]?=some (some v):=by
      unfold mC at e2;rw[xB (by simpa using Hw),List.length_replicate,eS,hj] at e2;have VR:(σ[j]?).getD none=some v:=jG e2;cases q:σ[j]? with
      |none=>rw[q] at VR;cases VR
      |some w'=>rw[q] at VR;exact fS some VR
    have ZY:=B.free _ (lookup_mem hf) rfl;obtain⟨mm,hn,hl⟩:=I.loc;have vis:pL X.env.scope x:=by
      rcases ZY with z|z
      ·exact .inr (.inl z)
      ·exact .inr (.inr z)
    obtain⟨u,r,l⟩:=hl j x v hy eσ vis;refine⟨u,r,.inr ⟨?_,?_⟩⟩
    · show(relabel scope X.env).names.lookup x=some .cell∨(relabel scope X.env).names.lookup x=some .free;have e:=mB (env:=X.env) scope.names x;rw[hf] at e;have e':(relabel scope X.env).names.lookup x=some (if (NameKind.free==NameKind.free&&X.env.scope.kind==.function&&X.env.kindOf x==some .cell) then NameKind.cell else NameKind.free):=e;rw[e'];split
      ·exact .inl rfl
      ·exact .inr rfl
    · rcases l with⟨z,_⟩|⟨_,c,hc,hcl⟩
      · rcases ZY with q|q
        ·rw[z] at q;cases q
        ·rw[z] at q;cases q
      ·exact⟨c,oH _ _ _ _ _ (fun _ _ z=>by simp at z) hc (lookup_mem hf),D4 x c hc _ hcl⟩
theorem Inv.block{m:Str→fu}{more:gu}(B:fJ X tgs fi scope)(I:Inv X pins σ H s)(hC:s.heap.objs.size≤C)(hex:∀b∈ex,fQ X pins H b)(dY:∀b∈ex,b<C)(k:∀b o,s.heap.get? b=some o→h'.get? b=some o)(Qz:h'.Ns C m)(Ua:∀p∈more,h'.get? p.1=some p.2∧H p.1=none∧p.1≠C∧s.heap.objs.size≤p.1∧∀v,p.2.data≠.cell v) :
    Inv (iO X tgs fi scope C ex s H) (pins++more) (mC tgs.length fi σ) H { s with heap:=h',toks:=t' } where
  ok:=QC B I hC hex dY
  os:=rfl
  bare:=I.bare
  base:=Un.kept k
  loc:=El B I (fun x c _ v ⟨o,ho,hd⟩=>⟨o,k c o ho,hd⟩) Qz
  cell:=fun x c e=>by obtain⟨v,o,ho,hd⟩:=I.cell x c (jg e);exact⟨v,o,k c o ho,hd⟩
  free:=I.bU.fresh hC
  fI:=fun x c e=>I.fI x c (jg e)
  pin:=fun p hp=>by
    have zV:p∈X.pn++(pins++more):=hp;rw[←List.append_assoc] at zV;rcases md.mp zV with hp|hp
    · obtain⟨e,n,ne,nf,d⟩:=I.pin p hp;refine⟨k _ _ e,n,dw (jX (bL e) hC),fun z=>?_,d⟩;rcases dm.mp (I.rD _ z) with q|q
      ·exact ne q
      ·exact nf q
    · obtain⟨e,n,ne,sz,d⟩:=Ua p hp;refine⟨e,n,ne,fun z=>?_,d⟩;rcases dm.mp (I.rD _ z) with q|q
      ·exact absurd (q▸I.lt) (Nat.not_lt.mpr sz)
      ·exact I.PZ sz q
  bU:=I.bU.kept k
  len:=by show(mC tgs.length fi σ).length=(B6 X.N tgs fi).length;simp[mC,B6]
theorem Inv.forget{pl:gu}{σ9:St}{H9:Hp}{s9:Shared}(B:fJ X tgs fi scope)(I:Inv X pins σ H s)(hex:∀b∈ex,fQ X pins H b)(I9:Inv (iO X tgs fi scope C ex s H) pl σ9 H9 s9):Inv (iO X tgs fi scope C ex s H) pl (mC tgs.length fi σ) H9 s9:=by
  obtain⟨m,hn,_⟩:=I9.loc;refine⟨I9.ok,I9.os,I9.bare,I9.base,El (ex:=ex) B I (fun x c e v ⟨o,ho,hd⟩=>?_) hn,I9.cell,I9.free,I9.fI,I9.pin,I9.bU,?_⟩
  ·have hx:c∉ex:=fun z=>(hex c z).2.2.2.2.1 x c e rfl;obtain⟨sl,q⟩:=I9.base.any ho (I.fI x c e) hx;exact⟨_,q,hd⟩
  ·show(mC tgs.length fi σ).length=(B6 X.N tgs fi).length;simp[mC,B6]
theorem Inv.Ub(I:Inv X pins σ H s)(hf:fQ X pins H a)(h0:X.s₀.heap.objs.size≤a)(new:bR X.prog X.w (upd H a o) s.heap a o):Inv X pins σ (upd H a o) s:=by
  obtain⟨hn,hL,QD,_,hC,hp⟩:=hf;refine⟨I.ok,I.os,I.bare,⟨I.base.keep,I.base.slot,fun b u e n hx=>?_,I.base.there,fun b xs e=>?_,fun b u xs e=>?_,fun b ps e=>?_⟩,I.loc,I.cell,?_,fun x c e=>?_,fun p zV=>?_,fun b u e=>?_,I.len⟩
  ·rw[ai (dw (jX (bL e) h0))];exact I.base.free b u e n hx
  ·have q:=I.base.oB b xs e;rw[ai (aP q hn)];exact q
  ·have q:=I.base.oC b u xs e;rw[ai (aP q hn)];exact q
  ·obtain⟨m,q⟩:=I.base.rA b ps e;exact⟨m,by rw[ai (aP q hn)];exact q⟩
  ·rw[ai (dq hL)];exact I.free
  ·rw[ai (hC x c e)];exact I.fI x c e
  ·obtain⟨e,n,r⟩:=I.pin p zV;exact⟨e,by rw[ai (hp p zV)];exact n,r⟩
  · by_cases hb:b=a
    ·subst hb;rw[ax] at e;cases e;exact new
    ·rw[ai hb] at e;exact(I.bU b u e).gR (fun _ _ _ q=>q) (fun c q=>by rw[ai (aP q hn)];exact q) fun c xs q=>by rw[ai (aP q hn)];exact q
end
def Gv(X:Cx)(ifs:List Expr)(t:TT):Prop :=
  ∀(pins:gu) (s:Shared) (σ:St) (H:Hp) (Q:Bool→Hp→Prop),Inv X pins σ H s→t σ H Q →
   wpAny (model X.prog X.w) X.A (forIn ifs true fun c r=>if r=true then do let ok ←isTrue c X.env (eval c X.env);pure (ForInStep.yield ok) else pure (ForInStep.yield r)) (TP X pins σ Q) X.xe s
def Xc:TT:=fun _ H Q=>Q true H
theorem IJ:Gv X [] Xc:=fun _ _ _ H _ I h=>wpAny_tests_nil ⟨H,I,h⟩
theorem IK{c:Expr}{t:TT}(h:PT X c t):Gv X [c] t:=fun pins s σ H Q I hw=>wpAny_tests_one (h pins s σ H Q I hw)
def O8(J:It)(σ0:St)(g:TG)(tt:TT)(te:TE)(W:Nat→Nat→List V→Hp→Prop)(Fin:List V→Hp→Prop):Prop :=
  ∀i m ys H,W i m ys H→(J.stop i H∧ys.length≤sizeLine∧Fin ys H) ∨
   (J.go i H∧ys.length<sizeLine∧∃(N:V→Hp→Prop) (N0:Hp→Prop),(∀y H4,N y H4→∃m',m'<m∧W (i+1) m' (ys++[y]) H4)∧(∀H3,N0 H3→∃m',m'<m∧W (i+1) m' ys H3) ∧
     ∀x H',J.BI i H x H'→g x σ0 H' fun σ2 H2=>tt σ2 H2 fun b H3=>if b=true then te σ2 H3 N else N0 H3)
section
variable {X:Cx} {tg elt iter:Expr} {ifs:List Expr} {tgs:dC} {fi:List Nat} {scope:Scope} {pos:Pos} {g:TG} {tt:TT} {te:TE}
def lobj(its:cv)(n:Nat):Obj:={ cls:=.type "list",data:=.seq its.toArray n }
theorem zW{H2:Hp}{s2:Shared}{J:It}{tn:Nat→Heap→Prop}{Fin:List V→Hp→Prop}{RR:Value→Addr→Result→Shared→Prop}(hc:X.calm=true)(B:fJ X tgs fi scope)(hg:∀C ex s H,PG (iO X tgs fi scope C ex s H) tg g)(ht:∀C ex s H,Gv (iO X tgs fi scope C ex s H) ifs tt)(he:∀C ex s H,PE (iO X tgs fi scope C ex s H) elt te)(I2:Inv X pins σ H2 s2)(T:Turn X.prog X.w X.K tg J fp it tn)(st:tn 0 s2.heap)(hf:∀b∈fp,fQ X pins H2 b)(W:Nat→Nat→List V→Hp→Prop)(m0:Nat)(w0:W 0 m0 [] H2)(turn:O8 J (mC tgs.length fi σ) g tt te W Fin)(hRR:∀D C H' ys s' m',Inv X pins σ (upd H' D (.lst ys)) s'→H' D=none→s'.heap.Ns C m'→fQ X pins (upd H' D (.lst ys)) C→Fin ys H'→RR (.ref D) C (.ok .next) s'):wpAny (model X.prog X.w) X.A (newList []) (fun acc s₃=>wpAny (model X.prog X.w) X.A (newFunctionEnv scope X.env.globals (iF X.env.cells scope.names []) [] X.env.qual none .none (some X.env)) (fun Uc s₄=>codeAny (model X.prog X.w) X.A (.compStart (.ListComp elt [⟨tg,iter,ifs,0⟩] scope pos) 0 (.ref it) acc { Uc with scope:=relabel scope X.env }) (RR acc Uc.locals) s₄) E s₃) E s2:=by
  refine wpAny_newObj_type (wpAny_newFunctionEnv B.cell (by intro y hy;simp at hy) (fun h₁ IL Gw=>?_) B.kind);dsimp only at IL Gw⊢;generalize Xd:s2.heap.push { cls:=.type "list",dict:=none,data:=.seq ([]:cv).toArray }=hp at IL Gw⊢;generalize hD:s2.heap.objs.size=D at IL Gw⊢;have VW:hp.objs.size=D+1:=by rw[←Xd,kK,hD]
  generalize hCe:hp.objs.size=C at IL Gw VW⊢;have Ud:D≠C:=by omega
  have old:∀b o,s2.heap.get? b=some o→h₁.get? b=some o:=fun b o e=>by have hb:b<D:=hD▸bL e;refine Gw.extBut b o (T6 hb VW) (eo _ ?_);rw[←Xd];exact eo _ e
  have hDo:h₁.get? D=some (lobj [] 0):=by refine Gw.extBut D _ Ud (eo _ ?_);rw[←Xd,←hD];exact cT _ rfl
  have QF:∀b∈fp,b<D:=fun b hb=>by obtain⟨o,e,_⟩:=T.obj 0 _ st b hb;rw[←hD];exact bL e
  have Ue:D∉fp:=fun z=>rn _ (QF D z);have Xe:H2 D=none:=I2.bU.fresh (by rw[hD];exact bG _);have ZZ:X.s₀.heap.objs.size≤D:=by rw[←hD];exact I2.sz
  have B7:∀(a:Addr),D≤a→∀x c,X.env.cells.lookup x=some c→c≠a:=fun a ha x c e z=>by obtain⟨v,q⟩:=I2.cell x c e;have:=q.lt;rw[hD] at this;exact IG this ha z
  have IQ:∀(a:Addr),D≤a→∀p∈X.pn++pins,p.1≠a:=fun a ha p zV z=>by have:=bL (I2.pin p zV).1;rw[hD] at this;exact IG this ha z
  have Ug:∀(a:Addr),D≤a→a≠X.env.locals:=fun a ha z=>by have:=I2.lt;rw[hD] at this;exact IG this ha z.symm
  have Z0:∀(a:Addr),D≤a→a∉X.fs:=fun a ha=>I2.PZ (by rw[hD];exact ha)
  -- the word of the loop
  let Y:Cx:=iO X tgs fi scope C fp s2 H2
  have Z1:∀{H:Hp} {pl:gu},(∀b∈fp,H b=none)→(∀p∈pl,p.1∉fp)→∀b∈fp,fQ Y (pins++pl) H b:=fun {H pl} hn m8 b hb=>by
    obtain⟨f0,f1,f2,f3,f4,f5⟩:=hf b hb;refine⟨hn b hb,T6 (QF b hb) VW,fun z=>?_,.inl hb,fun x c e=>f4 x c (jg e),fun p zV z=>?_⟩
    · rcases dm.mp (I2.rD b z) with e|e
      ·exact f1 e
      ·exact f2 e
    · have Ss:p∈X.pn++(pins++pl):=zV;rw[←List.append_assoc] at Ss;rcases md.mp Ss with q|q
      ·exact f5 p q z
      ·exact m8 p q (z▸hb)
  have loop:∀s₃:Shared,s₃={ s2 with heap:=h₁,toks:=s2.toks+([]:List (Str×Value)).length } →
      codeAny (model X.prog X.w) X.A (.compLoop (.ListComp elt [⟨tg,iter,ifs,0⟩] scope pos) 0 (.ref it) (.ref D) (compEnvC scope (iF X.env.cells scope.names []) C X.env)) (RR (.ref D) C) s₃:=by
    intro s₃ es₃;subst es₃;have quit:∀{α:Type} {m:Sem α} {Q Q':α→Shared→Prop} {E':fR} {s':Shared},wpAny (model X.prog X.w) X.A m Q (fun _ _=>False) s'→(∀a t,Q a t→Q' a t)→wpAny (model X.prog X.w) X.A m Q' E' s':=fun h k=>mq h k fun _ _ f=>f.elim;refine codeAny_loop rfl (fun n s'=>∃i H' ys its e,Inv Y (pins++[(D,lobj its e)]) (mC tgs.length fi σ) H' s'∧Vals ys its∧tn i s'.heap∧(∀b∈fp,H' b=none)∧W i n ys H') ?_ m0 ⟨0,H2,[],[],0,?_,.nil,?_,fun b hb=>(hf b hb).1,w0⟩
    rotate_left
    · refine Inv.block (C:=C) B I2 (by omega) hf (fun b hb=>Xb (QF b hb) VW) old IL fun p zV=>?_;have e:p=(D,lobj [] 0):=by simpa using zV
      subst e;exact⟨hDo,Xe,Ud,Nat.le_of_eq hD,fun v z=>by cases z⟩
    ·exact T.keep _ _ _ st fun b hb o e=>old b o e
    rintro n s4 ⟨i,H4,ys,its,e4,I4,rv,Z2,fr4,w4⟩;refine wpAny_noted ?_;rw[compTurn_list];refine aT (wpAny_standAt (aT ?_));have m8:∀p∈[(D,lobj its e4)],p.1∉fp:=fun p zV=>by
      have e:p=(D,lobj its e4):=by simpa using zV
      subst e;exact Ue
    have f4:=Z1 (pl:=[(D,lobj its e4)]) fr4 m8;rcases turn i n ys H4 w4 with⟨stop,hz,fin⟩|⟨go,hz,N,N0,hN,hN0,step⟩
    · -- the end
      refine cQ (T.done Y rfl rfl rfl hc i _ s4 _ H4 _ I4 f4 Z2 stop) fun r s5 ⟨hr,I5⟩=>?_;subst hr;refine cu ?_;have Xf:=(I5.pin (D,lobj its e4) (by simp)).1;have Uh:H4 D=none:=(I5.pin (D,lobj its e4) (by simp)).2.1;have Ui:Inv X pins σ H4 s5:=I2.Tc I5.os I5.base I5.bU I5.bare fun b hb=>by obtain⟨f0,f1,f2,f3,f4,f5⟩:=hf b hb;exact⟨f3,f1,f4,f5⟩
      have fpD:fQ X pins H4 D:=⟨Uh,Ug D (bG _),Z0 D (bG _),.inr ZZ,B7 D (bG _),IQ D (bG _)⟩
      have It:=Ui.Ub (o:=.lst ys) fpD ZZ ⟨hz,its,e4,rv,Xf⟩;obtain⟨m',Wv,_⟩:=I5.loc;refine hRR D C H4 ys s5 m' It Uh Wv ⟨?_,Ug C (by omega),Z0 C (by omega),.inr (by omega),B7 C (by omega),IQ C (by omega)⟩ fin;rw[ai (dq Ud)];exact I5.free
    · -- a turn
      refine cQ (T.item Y rfl rfl rfl hc i _ s4 _ H4 _ I4 f4 Z2 go) fun r s5 ⟨u,hr,h5⟩=>?_;subst hr;refine aT (cQ h5 fun _ s6 ⟨x,H6,I6,r6,y6,Xg,fr6⟩=>aT ?_);have I6':=I6.pinned (Z1 (pl:=[(D,lobj its e4)]) fr6 m8) (T.obj _ _ Xg);refine quit (hg C fp s2 H2 _ s6 _ H6 x u _ I6' r6 (step x H6 y6)) fun _ s7 ⟨σ7,H7,I7,q7⟩=>aT (quit (ht C fp s2 H2 _ s7 σ7 H7 _ I7 q7) fun b s8 ⟨H8,I8,q8⟩=>?_);have again:∀{σ9:St} {H9:Hp} {s9:Shared},Inv Y ((pins++[(D,lobj its e4)])++uj fp s6.heap) σ9 H9 s9→tn (i+1) s9.heap∧(∀b∈fp,H9 b=none):=fun {σ9 H9 s9} I9=>by refine⟨T.keep _ _ _ Xg fun b hb o e=>(I9.pin (b,o) (kx _ (kx _ (kM hb e)))).1,fun b hb=>?_⟩;obtain⟨o,e,d⟩:=T.obj _ _ Xg b hb;exact(I9.pin (b,o) (kx _ (kx _ (kM hb e)))).2.1
      cases b with
      |false=>obtain⟨m',hm,w8⟩:=hN0 _ q8;obtain⟨a1,a2⟩:=again I8;exact cu ⟨rfl,m',hm,i+1,H8,ys,its,e4,Inv.forget B I2 hf I8.ky,rv,a1,a2,w8⟩
      |true =>
       rw[ay rfl] at q8;refine aT (aT (quit (he C fp s2 H2 _ s8 σ7 H8 _ I8 q8) fun y s9 ⟨yv,H9,I9,r9,q9⟩=>aT ?_));obtain⟨m',hm,w9⟩:=hN yv H9 q9;obtain⟨a1,a2⟩:=again I9;obtain⟨p1,p2,p3,p4,p5⟩:=I9.pin (D,lobj its e4) (by simp);have hsz:its.toArray.size≤sizeLine:=by have:=rv.length;simp only[eE];omega
       refine wpAny_list_append_plain (hsz:=hsz) ⟨e4,p1⟩ fun h₅ hl₅ Z3=>cu (cu ⟨rfl,?_⟩);obtain⟨e5,Xf⟩:=hl₅;have Xh:h₅.get? D=some (lobj (its++[y]) e5):=by rw[Xf];simp[lobj]
       have Z4:Inv Y pins (mC tgs.length fi σ) H9 { s9 with heap:=h₅ }:=by refine Inv.turned (t':=s9.toks) (it:=D) ((Inv.forget B I2 hf I9.ky).ky) (fun b o hb e=>(Z3.2 b hb).trans e) p2 Ud (.inr (Nat.le_of_eq hD)) (fun x c e=>B7 D (bG _) x c (jg e)) (IQ D (bG _))
       refine⟨m',hm,i+1,H9,ys++[yv],its++[y],e5,Z4.xK fun p zV=>?_,Vals.append rv (.cons r9 .nil),T.keep _ _ _ a1 fun b hb o e=>(Z3.2 b (fun z=>Ue (z▸hb))).trans e,a2,w9⟩;rcases md.mp zV with q|q
       ·exact Z4.pin p (kx _ q)
       · have e:p=(D,lobj (its++[y]) e5):=by simpa using q
         subst e;exact⟨Xh,p2,Ud,p4,fun v z=>by cases z⟩
  exact codeAny_compStart_list (loop _ rfl) (T.self _ 0 _ _ _ (T.keep _ _ _ st fun b hb o e=>old b o e) (loop _ rfl))
def IU(wi:TI)(nt:Nat)(fi:List Nat)(g:TG)(tt:TT)(te:TE):TE:=fun σ H Q=>wi σ H fun J H1=>∃W:Nat→Nat→List V→Hp→Prop,(∃m,W 0 m [] H1) ∧
  O8 J (mC nt fi σ) g tt te W fun ys H2=>∀p,H2 p=none→Q (.ref p) (upd H2 p (.lst ys))
theorem Mx{wi:TI}(hc:X.calm=true)(B:fJ X tgs fi scope)(hi:PI X tg iter wi)(hg:∀C ex s H,PG (iO X tgs fi scope C ex s H) tg g)(ht:∀C ex s H,Gv (iO X tgs fi scope C ex s H) ifs tt)(he:∀C ex s H,PE (iO X tgs fi scope C ex s H) elt te)(hs:∀x,foldedSetIterable iter X.env x=pure x:=by intro _;rfl):PE X (.ListComp elt [⟨tg,iter,ifs,0⟩] scope pos) (IU wi tgs.length fi g tt te):=by
  intro pins s σ H Q I h;rw[eval_ListComp];refine wpAny_comprehension_free (use:=none) rfl hs (B.T8 I.ok) B.kind B.names (cQ (hi pins s σ H _ I h) fun xv s1 h1=>cQ h1 fun VD s2 h2=>?_);obtain⟨it,fp,tn,J,H2,e,I2,T,Tp,f2,W,⟨m0,w0⟩,turn⟩:=h2;subst e;refine zW (RR:=fun acc C=>compPost (model X.prog X.w) X.A X.xe none (EP X pins σ Q) acc C) hc B hg ht he I2 T Tp f2 W m0 w0 turn ?_;intro D C H' ys s' m' I' hD hn hC fin;obtain⟨c0,c1,c2,c3,c4,c5⟩:=hC;exact⟨m',hn,fun h' sb=>⟨.ref D,_,I'.turned (t':=s'.toks) (fun b o hb e=>(sb.2 b hb).trans e) c0 c1 c3 c4 c5,rfl,fin D hD⟩⟩
theorem B8{wi:TI}{IV:Pos}(hc:X.calm=true)(hN:X.N.Nodup)(hx:X.N[i]?=some x)(hl:X.env.scope.names.lookup x=some .local)(B:fJ X tgs fi scope)(hi:PI X tg iter wi)(hg:∀C ex s H,PG (iO X tgs fi scope C ex s H) tg g)(ht:∀C ex s H,Gv (iO X tgs fi scope C ex s H) ifs tt)(he:∀C ex s H,PE (iO X tgs fi scope C ex s H) elt te)(IW:swapsWith (.ListComp elt [⟨tg,iter,ifs,0⟩] scope pos) (some (.Name x pos')) IV.line X.env=pure true)(hs:∀x,foldedSetIterable iter X.env x=pure x:=by intro _;rfl):PS X (.Assign [.Name x pos'] (.ListComp elt [⟨tg,iter,ifs,0⟩] scope pos) IV) (xO (IU wi tgs.length fi g tt te) (nQ i)):=by
  intro pins s σ H D I h;rw[exec_Assign_Name_used _ _ _ _ IW];refine aT (wpAny_standAt (aT ?_));show wpAny _ _ (do let _ ←comprehension (.ListComp elt [⟨tg,iter,ifs,0⟩] scope pos) scope X.env _ (newList []) false (eval iter X.env) (some (assign (.Name x pos') X.env))) _ _ s;refine aT (mq (wpAny_comprehension_free (use:=some (assign (.Name x pos') X.env)) (Q:=fun _ s'=>SP X pins D .next s') rfl hs (B.T8 I.ok) B.kind B.names
    (cQ (hi pins s σ H _ I h) fun xv s1 h1=>cQ h1 fun VD s2 h2=>?_)) (fun _ s' hq=>cu (cu hq)) fun _ _ e=>e)
  obtain⟨it,fp,tn,J,H2,e,I2,T,Tp,f2,W,⟨m0,w0⟩,turn⟩:=h2;subst e;refine zW (RR:=fun acc C=>compPost (model X.prog X.w) X.A X.xe (some (assign (.Name x pos') X.env)) (fun _ s'=>SP X pins D .next s') acc C) hc B hg ht he I2 T Tp f2 W m0 w0 turn ?_;intro a C H' ys s' m' I' hD hn hC fin;obtain⟨c0,c1,c2,c3,c4,c5⟩:=hC;refine wpAny_assign_Name (wU (v:=.ref a) I' hN hx (.inl hl) rfl (fun tq I'' ⟨b,sb,hb⟩=>?_) (.inr hl));have hCb:C≠b:=by
    rcases hb with z|z
    ·rw[z];exact c1
    ·exact fun q=>c4 x b z q.symm
  exact⟨m',hn.sameBut sb hCb,fun h' sb'=>⟨_,_,I''.turned (t':=tq.toks) (fun b o hb e=>(sb'.2 b hb).trans e) c0 c1 c3 c4 c5,fin a hD⟩⟩
end
end L2
namespace L2
open PySem PySem.Calls
section
variable {prog:Program} {w:World} {A:Around} {E:fR} {s:Shared}
theorem Em{l:Addr}{items:Array Value}(hit:s.heap.IsTupleIter it l i)(hl:s.heap.IsTuple l items)(hh:items[i]?=none→A.handled=none)(hQ:∀x,items[i]?=some x→∀h',h'.IsTupleIter it l (i+1)→Heap.SameBut it s.heap h'→Q x { s with heap:=h' })(hE:items[i]?=none→∀h' e,Heap.ExtBut it s.heap h'→(∃o,h'.get? e=some o∧o.cls=.type "StopIteration")→E (.ref e) { s with heap:=h' }):wpAny (model prog w) A (Builtin.SmallTypes.nextOf (.ref it)) Q E s:=by
  obtain⟨⟨oc,odi,oda,wc⟩,ho,hc,hd⟩:=id hit;obtain⟨⟨lc,ldi,lda,lsl⟩,hol,_,nl,VX⟩:=hl;cases hc;cases hd;cases VX;refine aT (vZ (name:=Str.ofString "__next__") hit.typeIs F.slot_tuple_iterator_next (nL F.slot_tuple_iterator_next hit.typeIs F.entry_tuple_iterator_next ?_ (F.args_tuple_iterator_next_1 _)))
  wp_walk using wpAny_field ho rfl rfl,wpAny_seqItems hol rfl
  rw[rj];cases hx:items[i]? with
  |some x=>refine aT (wpAny_setField ho rfl (by simp) (cu ⟨x,rfl,cu (hQ x hx _ ⟨_,sX _ ho rfl,rfl,?_⟩ (pE ..))⟩));simp[Obj.mapFields,rawInt]
  |none =>
   have Hz:A.in1.handled=none:=by simpa using hh hx
   refine aT (wpAny_rule (aT (wpAny_setField ho rfl (by simp) ?_)));unfold Builtin.SmallTypes.stopIteration
   wp_walk
   unfold raiseNew;refine aT (wpAny_handled ?_);rw[Hz];exact aT (cu (wpAny_throw (hE hx _ _ (fun b o n e=>eo _ (eo _ ((pE ..).extBut b o n e))) ⟨_,cT _ rfl,rfl⟩)))
def uq(z TO i1 i2:Addr)(h h':Heap):Prop:=∀c o,c≠z→c≠TO→c≠i1→c≠i2→h.get? c=some o→h'.get? c=some o
theorem En{z TI TO i1 i2 l1 l2:Addr}{k1 k2:Nat}{xs:Array Value}{a b:Value}{Q:Fin→Shared→Prop}(D:ZipApart z TI TO i1 i2 l1 l2)(jz:IsZip s.heap z TI TO .none)(jI:IsPair s.heap TI (.ref i1) (.ref i2))(jO:IsPair s.heap TO a b)(p1:s.heap.IsTupleIter i1 l1 k1)(p2:s.heap.IsTupleIter i2 l2 k2)(q1:s.heap.IsTuple l1 xs)(q2:s.heap.IsTuple l2 ys)(hh:xs[k1]?=none∨ys[k2]?=none→A.handled=none)(hQ:∀x y,xs[k1]?=some x→ys[k2]?=some y→∀h',IsZip h' z TI TO (rawInt s.heap.objs.size)→IsPair h' TO x y→h'.IsTupleIter i1 l1 (k1+1)→h'.IsTupleIter i2 l2 (k2+1)→IsPair h' s.heap.objs.size x y→h'.objs.size=s.heap.objs.size+1→uq z TO i1 i2 s.heap h'→Q (.done (.ret (.ref s.heap.objs.size))) { s with heap:=h' })(hE:xs[k1]?=none∨ys[k2]?=none→∀h' e,uq z TO i1 i2 s.heap h'→(∃o,h'.get? e=some o∧o.cls=.type "StopIteration")→E (.ref e) { s with heap:=h' }):wpAny (model prog w) A (Builtin.«zip.__next__» ⟨[.ref z],[]⟩) Q E s:=by
  have stops:∀{h:Heap} {e:Addr} {u:Value},IsZip h z TI TO u→uq z TO i1 i2 s.heap h→(∃o,h.get? e=some o∧o.cls=.type "StopIteration")→(xs[k1]?=none∨ys[k2]?=none) →
      wpAny (model prog w) A (setField (.ref z) 0 .none) (fun _ s'=>E (.ref e) s') E { s with heap:=h }:=fun {h e u} j k he en=>by
    obtain⟨o,g,c⟩:=he;have n:e≠z:=fun n=>by subst n;rw[j] at g;cases g;simp at c
    exact ui j (by simp) fun h' _ s'=>hE en h' e (fun c o n1 n2 n3 n4 x=>s'.extBut _ _ n1 (k c o n1 n2 n3 n4 x)) ⟨o,s'.extBut _ _ n g,c⟩
  unfold Builtin.«zip.__next__»;generalize hF:setField=SF
  wp_walk using wpAny_field jz rfl rfl,wpAny_seqItems jI rfl
  subst hF;refine ui jz (by simp) fun h₁ z1 s1=>?_;have Z5:IsZip h₁ z TI TO .ellipsis:=z1;have Z6:uq z TO i1 i2 s.heap h₁:=fun c o n1 _ _ _ e=>s1.extBut c o n1 e;refine aT (aT (aT (wpAny_onRaise (aT (Em (s:={ s with heap:=h₁ }) (p1.extBut s1.extBut D.i1z) (q1.extBut s1.extBut D.l1z) (fun e=>hh (.inl e)) (fun x hx h₂ d2 s2=>?_) fun hx h₂ e x2 he =>
    stops (x2 _ _ D.i1z.symm Z5) (fun c o n1 n2 n3 n4 g=>x2 _ _ n3 (Z6 c o n1 n2 n3 n4 g)) he (.inl hx))))))
  refine cu (aT (wpAny_seqItems (s2.extBut _ _ D.TOi1 (s1.extBut _ _ D.TOz jO)) rfl (aT (wpAny_updateSeq_pair (s2.extBut _ _ D.TOi1 (s1.extBut _ _ D.TOz jO)) fun h₃ t3 s3=>aT (wpAny_letGo (cu ?_))))));have z3:IsZip h₃ z TI TO .ellipsis:=s3.extBut _ _ D.TOz.symm (s2.extBut _ _ D.i1z.symm Z5);have Z7:uq z TO i1 i2 s.heap h₃:=fun c o n1 n2 n3 n4 e=>s3.extBut _ _ n2 (s2.extBut _ _ n3 (Z6 c o n1 n2 n3 n4 e));refine aT (aT (wpAny_onRaise (aT (Em (s:={ s with heap:=h₃ }) (p2.at fun o e=>s3.extBut _ _ D.TOi2.symm (s2.extBut _ _ D.i12.symm (s1.extBut _ _ D.i2z e))) (q2.at fun o e=>s3.extBut _ _ D.l2TO (s2.extBut _ _ D.l2i1 (s1.extBut _ _ D.l2z e))) (fun e=>hh (.inr e)) (fun y hy h₄ d4 s4=>?_) fun hy h₄ e x4 he =>
    stops (x4 _ _ D.i2z.symm z3) (fun c o n1 n2 n3 n4 g=>x4 _ _ n4 (Z7 c o n1 n2 n3 n4 g)) he (.inr hy)))))
  refine cu (aT (wpAny_seqItems (s4.extBut _ _ D.TOi2 t3) rfl (aT (wpAny_updateSeq_pair (s4.extBut _ _ D.TOi2 t3) fun h₅ t5 s5=>aT (wpAny_letGo (cu (cu ?_)))))));have sz:h₅.objs.size=s.heap.objs.size:=s5.1.trans (s4.1.trans (s3.1.trans (s2.1.trans s1.1)));have z5:IsZip h₅ z TI TO .ellipsis:=s5.extBut _ _ D.TOz.symm (s4.extBut _ _ D.i2z.symm z3);have ne:∀{c:Addr} {o:Obj},h₅.get? c=some o→s.heap.objs.size≠c:=fun e=>pK (sz▸bL e);have t5':IsPair h₅ TO x y:=t5;refine aT (wpAny_seqItems t5' rfl (aT (wpAny_newTuple (aT ?_))));refine aT (ui (eo _ z5) (by simp) fun h₆ z6 s6=>ui z6 (by simp) fun h₇ z7 s7=>cu ?_);have up:∀c o,c≠z→h₅.get? c=some o→h₇.get? c=some o:=fun c o n e=>s7.extBut _ _ n (s6.extBut _ _ n (eo _ e));dsimp only at z7 s7 s6⊢;rw[sz] at z7⊢;refine hQ x y hx hy h₇ z7 (up _ _ D.TOz t5) (d2.at fun o e=>up _ _ D.i1z (s5.extBut _ _ D.TOi1.symm (s4.extBut _ _ D.i12 (s3.extBut _ _ D.TOi1.symm e)))) (d4.at fun o e=>up _ _ D.i2z (s5.extBut _ _ D.TOi2.symm e)) ?_ ?_ fun c o n1 n2 n3 n4 e=>up _ _ n1 (s5.extBut _ _ n2 (s4.extBut _ _ n4 (Z7 c o n1 n2 n3 n4 e)))
  ·exact s7.extBut _ _ (ne z5) (s6.extBut _ _ (ne z5) (sz▸cT _ rfl))
  ·rw[s7.1,s6.1,kK,sz]
theorem ur{z TI TO i1 i2 l1 l2:Addr}{k1 k2:Nat}{xs:Array Value}{x y a b:Value}{Q:fu→Shared→Prop}(D:ZipApart z TI TO i1 i2 l1 l2)(jz:IsZip s.heap z TI TO .none)(jI:IsPair s.heap TI (.ref i1) (.ref i2))(jO:IsPair s.heap TO a b)(p1:s.heap.IsTupleIter i1 l1 k1)(p2:s.heap.IsTupleIter i2 l2 k2)(q1:s.heap.IsTuple l1 xs)(q2:s.heap.IsTuple l2 ys)(hx:xs[k1]?=some x)(hy:ys[k2]?=some y)(hQ:∀h',IsZip h' z TI TO (rawInt s.heap.objs.size)→IsPair h' TO x y→h'.IsTupleIter i1 l1 (k1+1)→h'.IsTupleIter i2 l2 (k2+1)→IsPair h' s.heap.objs.size x y→h'.objs.size=s.heap.objs.size+1→uq z TO i1 i2 s.heap h'→Q (some (.ref s.heap.objs.size)) { s with heap:=h' }):wpAny (model prog w) A (pyNext (.ref z)) Q E s:=by
  have no:¬ (xs[k1]?=none∨ys[k2]?=none):=fun o=>by rw[hx,hy] at o;rcases o with o|o<;>cases o
  refine aT (wpAny_attempt (vZ ⟨_,jz,rfl⟩ F.slot_zip_next (nL F.slot_zip_next ⟨_,jz,rfl⟩ F.entry_zip_next (En D jz jI jO p1 p2 q1 q2 (fun o=>absurd o no) (fun u v hu hv h' a1 a2 a3 a4 a5 a6 a7=>?_) fun o=>absurd o no) (F.args_zip_next_1 _))));cases hx.symm.trans hu;cases hy.symm.trans hv;exact⟨_,rfl,cu (hQ h' a1 a2 a3 a4 a5 a6 a7)⟩
theorem wt{z TI TO i1 i2 l1 l2:Addr}{k1 k2:Nat}{xs:Array Value}{a b:Value}{Q:fu→Shared→Prop}(hh:A.handled=none)(D:ZipApart z TI TO i1 i2 l1 l2)(jz:IsZip s.heap z TI TO .none)(jI:IsPair s.heap TI (.ref i1) (.ref i2))(jO:IsPair s.heap TO a b)(p1:s.heap.IsTupleIter i1 l1 k1)(p2:s.heap.IsTupleIter i2 l2 k2)(q1:s.heap.IsTuple l1 xs)(q2:s.heap.IsTuple l2 ys)(Uj:xs[k1]?=none∨ys[k2]?=none)(hQ:∀h',uq z TO i1 i2 s.heap h'→Q none { s with heap:=h' }):wpAny (model prog w) A (pyNext (.ref z)) Q E s:=by
  have Hz:A.in1.handled=none:=by simpa using hh
  refine aT (wpAny_attempt (vZ ⟨_,jz,rfl⟩ F.slot_zip_next (nL F.slot_zip_next ⟨_,jz,rfl⟩ F.entry_zip_next (En D jz jI jO p1 p2 q1 q2 (fun _=>Hz) (fun u v hu hv=>?_) fun _ h' e k he=>?_) (F.args_zip_next_1 _))))
  ·rw[hu,hv] at Uj;rcases Uj with o|o<;>cases o
  ·obtain⟨o,g,c⟩:=he;exact aT (wpAny_isInstance ⟨o,g,c⟩ isSubtype_stop (cu (hQ h' k)))
end
def IX(h:Heap)(l1 l2:Addr):Heap :=
  let it:=fun l:Addr=>({ cls:=.type "tuple_iterator",data:=.fields #[.ref l,.int 0 0] }:Obj)
  let tp:=fun u v:Value=>({ cls:=.type "tuple",data:=.seq #[u,v] }:Obj)
  let n:=h.objs.size
  ((((h.push (it l1)).push (it l2)).push (tp (.ref n) (.ref (n+1)))).push (tp .none .none)).push { cls:=.type "zip",data:=.fields #[.none,.bool false,.bool false,.ref (n+2),.ref (n+3)] }
theorem x6(l1 l2:Addr)(xs ys:Array Value):Meets (Builtin.«zip.__new__» ⟨[.type "zip",.ref l1,.ref l2],[]⟩) (fun _ R s=>s.heap.IsTuple l1 xs∧s.heap.IsTuple l2 ys∧R (.ok (.ret (.ref (s.heap.objs.size+4)))) { s with heap:=IX s.heap l1 l2 }) :=
  .of_wp fun prog w A R s ⟨q1,q2,h⟩=>by
    have QG:=sub_zip;have VY:Heap.IsTuple (Shared.heap { s with heap:=s.heap.push { cls:=.type "tuple_iterator",data:=.fields #[.ref l1,.int 0 0] } }) l2 ys:=Heap.IsTuple.push q2 _
    wp_walk using wpAny_pyIter_tuple q1,wpAny_pyIter_tuple VY
    exact⟨_,rfl,by simp only[kK];exact h⟩
section
variable {prog:Program} {w:World} {A:Around} {E:fR} {s:Shared}
theorem My{l1 l2:Addr}{xs:Array Value}(q1:s.heap.IsTuple l1 xs)(q2:s.heap.IsTuple l2 ys)(h:∀h',IsZip h' (s.heap.objs.size+4) (s.heap.objs.size+2) (s.heap.objs.size+3) .none→IsPair h' (s.heap.objs.size+2) (.ref s.heap.objs.size) (.ref (s.heap.objs.size+1))→IsPair h' (s.heap.objs.size+3) .none .none→h'.IsTupleIter s.heap.objs.size l1 0→h'.IsTupleIter (s.heap.objs.size+1) l2 0→h'.objs.size=s.heap.objs.size+5→(∀c o,s.heap.get? c=some o→h'.get? c=some o)→Q (.ref (s.heap.objs.size+4)) { s with heap:=h' }):wpAny (model prog w) A (call (.type "zip") [.ref l1,.ref l2]) Q E s:=by
  have last:∀(g:Heap) (o:Obj) (n:Nat),g.objs.size=n→o.isFreed=false→(g.push o).get? n=some o:=fun g o n e f=>e▸cT _ f;have kp:∀(g:Heap) (o:Obj) {c:Addr} {u:Obj},g.get? c=some u→(g.push o).get? c=some u:=fun g o _ _ e=>eo _ e;have e4:(IX s.heap l1 l2).get? (s.heap.objs.size+4)=some _:=last _ _ _ (by simp only[kK]) rfl;refine callType_new F.called_zip (by decide) (F.typeCall_zip_2 _ _) (F.newCall_zip_2 _ _) (fun obj=>F.args_object_init_3 obj _ _) F.entry_zip_new (x6 l1 l2 xs ys) ⟨q1,q2,⟨_,e4,rfl⟩,?_⟩;refine h _ e4 ?_ ?_ ⟨_,kp _ _ (kp _ _ (kp _ _ (kp _ _ (last _ _ _ rfl rfl)))),rfl,rfl⟩ ⟨_,kp _ _ (kp _ _ (kp _ _ (last _ _ _ (by simp only[kK]) rfl))),rfl,rfl⟩ (by simp only[IX,kK]) fun c o e=>kp _ _ (kp _ _ (kp _ _ (kp _ _ (kp _ _ e))))
  ·exact kp _ _ (kp _ _ (last _ _ _ (by simp only[kK]) rfl))
  ·exact kp _ _ (last _ _ _ (by simp only[kK]) rfl)
end
end L2
namespace L2
open PySem PySem.Spec PyProof.Rows
def Xi(K:PySem.W.Frag)(a b:Addr)(xs ys:List V):It :=
  ⟨fun i H=>gw K H a xs∧gw K H b ys∧i<xs.length∧i<ys.length,fun i H x H'=>∃p u v,x=.ref p∧H p=none∧H'=upd H p (.tup [u,v])∧xs[i]?=some u∧ys[i]?=some v,
    fun i H=>gw K H a xs∧gw K H b ys∧(xs.length≤i∨ys.length≤i)⟩
theorem IY{K:PySem.W.Frag}(a b z TI TO i1 i2:Addr)(D:ZipApart z TI TO i1 i2 a b)(xs ys:List V) :
    Turn P w K (.Tuple elts k pos) (Xi K a b xs ys) [z,TI,TO,i1,i2] z (fun i h=>IsZip h z TI TO .none∧IsPair h TI (.ref i1) (.ref i2)∧(∃u v,IsPair h TO u v)∧h.IsTupleIter i1 a i∧h.IsTupleIter i2 b i) where
  mem:=by simp
  obj:=fun i h st c hc=>by
    obtain⟨h1,h2,⟨u,v,h3⟩,⟨o1,h4,_,d1⟩,⟨o2,h5,_,d2⟩⟩:=st;simp only[dm,List.not_mem_nil,or_false] at hc;rcases hc with rfl|rfl|rfl|rfl|rfl
    ·exact⟨_,h1,fun v z=>by cases z⟩
    ·exact⟨_,h2,fun v z=>by cases z⟩
    ·exact⟨_,h3,fun v z=>by cases z⟩
    ·exact⟨_,h4,fun v z=>by rw[d1] at z;cases z⟩
    ·exact⟨_,h5,fun v z=>by rw[d2] at z;cases z⟩
  keep:=fun i h h' st kk=>by obtain⟨h1,h2,⟨u,v,h3⟩,⟨o1,h4,r1⟩,⟨o2,h5,r2⟩⟩:=st;exact⟨kk z (by simp) _ h1,kk TI (by simp) _ h2,⟨u,v,kk TO (by simp) _ h3⟩,⟨o1,kk i1 (by simp) _ h4,r1⟩,⟨o2,kk i2 (by simp) _ h5,r2⟩⟩
  item:=by
    intro X hP hw hK hc i pins s σ H E I hf st hg;subst hP hw hK;obtain⟨qa,qb,la,lb⟩:=hg;obtain⟨pU,vX,p1,_⟩:=I.tuple qa;obtain⟨cV,vY,p2,_⟩:=I.tuple qb;obtain⟨u,hu,ru⟩:=vX.get (x:=xs[i]) (i:=i) (by simp[la]);obtain⟨v,hv,rv⟩:=vY.get (x:=ys[i]) (i:=i) (by simp[lb]);obtain⟨h1,h2,⟨u0,v0,h3⟩,h4,h5⟩:=st;refine ur D h1 h2 h3 h4 h5 (show s.heap.IsTuple a pU.toArray from p1) (show s.heap.IsTuple b cV.toArray from p2) (x:=u) (y:=v) (by simpa using hu) (by simpa using hv) fun h' a1 a2 a3 a4 a5 a6 a7=>?_;refine⟨_,rfl,wpAny_letOwnedTupleGo_zip (s:={ s with heap:=h' }) a1 fun Sv b1 sb=>?_⟩;have fz:=hf z (by simp);have fT:=hf TO (by simp);have f1:=hf i1 (by simp);have f2:=hf i2 (by simp);have Sw:H s.heap.objs.size=none:=I.bU.fresh (bG _);have hzl:z<s.heap.objs.size:=bL h1;have kept:∀c o,c≠z→c≠TO→c≠i1→c≠i2→s.heap.get? c=some o→Sv.get? c=some o:=fun c o c1 c2 c3 c4 e=>(sb.2 c c1).trans (a7 c o c1 c2 c3 c4 e);have kT:∀c o,H c≠none→s.heap.get? c=some o→Sv.get? c=some o:=fun c o hn e =>
      kept c o (fun q=>hn (q▸fz.1)) (fun q=>hn (q▸fT.1)) (fun q=>hn (q▸f1.1)) (fun q=>hn (q▸f2.1)) e
    have hTp:Sv.get? s.heap.objs.size=some { cls:=.type "tuple",data:=.seq #[u,v] }:=(sb.2 _ (pK hzl)).trans a5;refine⟨.ref s.heap.objs.size,upd H s.heap.objs.size (.tup [xs[i],ys[i]]),?_,rfl,⟨_,xs[i],ys[i],rfl,Sw,rfl,by simp[la],by simp[lb]⟩,?_,fun c hc=>?_⟩
    · show Inv X pins σ _ { s with heap:=Sv,gens:=s.gens,drawn:=s.drawn,toks:=s.toks };refine I.step (g':=s.gens) (d':=s.drawn) (t':=s.toks) (ch:=[z,TO,i1,i2]) (fun c hc=>?_) (fun c o _ _ hc e _=>?_) (fun c o _ _ hc e _=>⟨o.slots,?_⟩) (fun c o hc e n=>?_) (fun c o hc e=>⟨o,?_⟩) (fun c zs e=>?_) (fun c o zs e=>?_) (fun c ps e=>⟨#[],?_⟩) (fun m hm=>?_) (fun c o e=>?_) I.bare
      · simp only[dm,List.not_mem_nil,or_false] at hc;have g:fQ X pins H c:=by
          rcases hc with rfl|rfl|rfl|rfl
          ·exact fz
          ·exact fT
          ·exact f1
          ·exact f2
        exact⟨g.2.2.2.1,g.2.1,g.2.2.2.2.1,g.2.2.2.2.2⟩
      all_goals try simp only[dm,List.not_mem_nil,or_false,not_or] at hc
      ·exact kept c o hc.1 hc.2.1 hc.2.2.1 hc.2.2.2 e
      ·exact kept c o hc.1 hc.2.1 hc.2.2.1 hc.2.2.2 e
      ·rw[ai (dw (bL e))];exact n
      ·exact kept c o hc.1 hc.2.1 hc.2.2.1 hc.2.2.2 e
      ·rw[ai (aP e Sw)];exact e
      ·rw[ai (aP e Sw)];exact e
      ·rw[ai (aP e Sw),e];simp
      ·obtain⟨o,es,ep,ho,r⟩:=hm;exact⟨o,es,ep,kept _ o (dq fz.2.1) (dq fT.2.1) (dq f1.2.1) (dq f2.2.1) ho,r⟩
      · by_cases Xj:c=s.heap.objs.size
        ·subst Xj;rw[ax] at e;cases e;exact⟨by show 2≤sizeLine;decide,[u,v],.cons ru (.cons rv .nil),⟨_,hTp,rfl,_,rfl⟩⟩
        · rw[ai Xj] at e;refine(I.bU c o e).gR (fun d q hd z'=>kT d q ?_ z') (fun d q=>by rw[ai (aP q Sw)];exact q) fun d zs q=>by rw[ai (aP q Sw)];exact q
          rcases hd with rfl|hd
          ·rw[e];exact fun q=>nomatch q
          ·rw[hd];exact fun q=>nomatch q
    · refine⟨b1,?_,⟨u,v,?_⟩,?_,?_⟩
      ·exact(sb.2 _ D.TIz).trans (a7 TI _ D.TIz D.TITO D.TIi1 D.TIi2 h2)
      ·exact(sb.2 _ D.TOz).trans a2
      ·obtain⟨o,e,r⟩:=a3;exact⟨o,(sb.2 _ D.i1z).trans e,r⟩
      ·obtain⟨o,e,r⟩:=a4;exact⟨o,(sb.2 _ D.i2z).trans e,r⟩
    · have hn:=(hf c hc).1;obtain⟨o,e,_⟩:∃o,s.heap.get? c=some o∧True:=by
        simp only[dm,List.not_mem_nil,or_false] at hc;rcases hc with rfl|rfl|rfl|rfl|rfl
        ·exact⟨_,h1,trivial⟩
        ·exact⟨_,h2,trivial⟩
        ·exact⟨_,h3,trivial⟩
        ·obtain⟨o,e,_⟩:=h4;exact⟨o,e,trivial⟩
        ·obtain⟨o,e,_⟩:=h5;exact⟨o,e,trivial⟩
      rw[ai (dw (bL e))];exact hn
  done:=by
    intro X hP hw hK hc i pins s σ H E I hf st hg;subst hP hw hK;obtain⟨qa,qb,T9⟩:=hg;obtain⟨pU,vX,p1,_⟩:=I.tuple qa;obtain⟨cV,vY,p2,_⟩:=I.tuple qb;have l1:=vX.length;have l2:=vY.length;obtain⟨h1,h2,⟨u0,v0,h3⟩,h4,h5⟩:=st;have fz:=hf z (by simp);have fT:=hf TO (by simp);have f1:=hf i1 (by simp);have f2:=hf i2 (by simp);refine wt (I.ok.hd hc) D h1 h2 h3 h4 h5 (show s.heap.IsTuple a pU.toArray from p1) (show s.heap.IsTuple b cV.toArray from p2) (by
      rcases T9 with q|q
      ·exact .inl (by simp;omega)
      ·exact .inr (by simp;omega)) fun h' kk=>⟨rfl,?_⟩
    refine I.step (g':=s.gens) (d':=s.drawn) (t':=s.toks) (ch:=[z,TO,i1,i2]) (fun c hc=>?_) (fun c o _ _ hc e _=>?_) (fun c o _ _ hc e _=>⟨o.slots,?_⟩) (fun c o hc e n=>n) (fun c o hc e=>⟨o,?_⟩) (fun c zs e=>e) (fun c o zs e=>e) (fun c ps e=>⟨#[],by rw[e];simp⟩) (fun m hm=>?_) (fun c o e=>?_) I.bare
    · simp only[dm,List.not_mem_nil,or_false] at hc;have g:fQ X pins H c:=by
        rcases hc with rfl|rfl|rfl|rfl
        ·exact fz
        ·exact fT
        ·exact f1
        ·exact f2
      exact⟨g.2.2.2.1,g.2.1,g.2.2.2.2.1,g.2.2.2.2.2⟩
    all_goals try simp only[dm,List.not_mem_nil,or_false,not_or] at hc
    ·exact kk c o hc.1 hc.2.1 hc.2.2.1 hc.2.2.2 e
    ·exact kk c o hc.1 hc.2.1 hc.2.2.1 hc.2.2.2 e
    ·exact kk c o hc.1 hc.2.1 hc.2.2.1 hc.2.2.2 e
    ·obtain⟨o,es,ep,ho,r⟩:=hm;exact⟨o,es,ep,kk _ o (dq fz.2.1) (dq fT.2.1) (dq f1.2.1) (dq f2.2.1) ho,r⟩
    · refine(I.bU c o e).gR (fun d q hd z'=>?_) (fun _ q=>q) fun _ _ q=>q;have hn:H d≠none:=by
        rcases hd with rfl|hd
        ·rw[e];exact fun q=>nomatch q
        ·rw[hd];exact fun q=>nomatch q
      exact kk d q (fun q=>hn (q▸fz.1)) (fun q=>hn (q▸fT.1)) (fun q=>hn (q▸f1.1)) (fun q=>hn (q▸f2.1)) z'
  self:=fun _ _ _ _ _ st h=>wpAny_pyIter_zip st.1 h
section
variable {X:Cx}
def Xk(K:PySem.W.Frag)(ta:TA):TI:=fun σ H R=>ta σ H fun vs H1=>∃a b xs ys,vs=[.ref a,.ref b]∧gw K H1 a xs∧gw K H1 b ys∧R (Xi K a b xs ys) H1
theorem QH{a b:Expr}{uk:Pos}{ta:TA}{p:Pos}(hg:Gl X "zip")(hm:X.mg "zip"=none)(ha:PA X [a,b] ta)(hs:starEach [a,b] X.env=[(false,eval a X.env),(false,eval b X.env)]:=by rfl)(ku:starEach [b] X.env=[(false,eval b X.env)]:=by rfl):PI X (.Tuple elts k uk) (.Call (.Name "zip" p) [a,b] [] pos) (Xk X.K ta):=by
  intro pins s σ H R I h;refine Call_ (gU I hg hm (by decide +kernel:bootBuiltins "zip"=some (.type "zip")) (Bz (cQ (ha pos pins s σ H _ I h) fun us s1 ⟨vs,H1,I1,r1,q1⟩=>?_) (by rw[hs,ku]) (by rw[ku];rfl)));obtain⟨a,b,xs,ys,e,qa,qb,q⟩:=q1;subst e;obtain⟨u,v,rfl,ru,rv⟩:=vals2 r1;cases ru;cases rv;obtain⟨pU,vX,p1,_⟩:=I1.tuple qa;obtain⟨cV,vY,p2,_⟩:=I1.tuple qb;have la:a<s1.heap.objs.size:=by obtain⟨o,e,_⟩:=p1;exact bL e
  have lb:b<s1.heap.objs.size:=by obtain⟨o,e,_⟩:=p2;exact bL e
  refine My (show s1.heap.IsTuple a pU.toArray from p1) (show s1.heap.IsTuple b cV.toArray from p2) fun h' hz hTI hTO hi1 QI hsz kk=>?_;refine wpAny_pyIter_zip (s:={ s1 with heap:=h' }) hz ?_;have I2:Inv X pins σ H1 { s1 with heap:=h' }:=I1.kept (t':=s1.toks) kk;refine⟨_,[_,_,_,_,_],_,_,H1,rfl,I2,IY a b _ _ _ _ _ (PySem.W.ktu_apart _ a b la lb) xs ys,⟨hz,hTI,⟨_,_,hTO⟩,hi1,QI⟩,fun c hc=>?_,q⟩;have Eo:s1.heap.objs.size≤c:=by simp only[dm,List.not_mem_nil,or_false] at hc;rcases hc with rfl|rfl|rfl|rfl|rfl<;>first|exact bG _|exact Nat.le_add_right _ _
  exact I1.tm Eo (I1.bU.fresh Eo)
end
theorem zY:bootBuiltins "tuple"=some (.type "tuple"):=by decide +kernel
theorem x8:bootBuiltins "list"=some (.type "list"):=by decide +kernel
theorem QJ:bootBuiltins "int"=some (.type "int"):=by decide +kernel
theorem Mz:bootBuiltins "bool"=some (.type "bool"):=by decide +kernel
theorem QK:bootBuiltins "str"=some (.type "str"):=by decide +kernel
theorem IZ:bootBuiltins "set"=some (.type "set"):=by decide +kernel
theorem dy:bootBuiltins "len"=some (.builtin "len"):=by decide +kernel
theorem B9:bootBuiltins "sum"=some (.builtin "sum"):=by decide +kernel
theorem w6:bootBuiltins "sorted"=some (.builtin "sorted"):=by decide +kernel
theorem wu:bootBuiltins "isinstance"=some (.builtin "isinstance"):=by decide +kernel
theorem in1_units:A.in1.units=A.units+1:=rfl
theorem all_eq{ms:bK}:((List.range (min ns.length ms.length)).all (fun j=>decide (ns[j]?=ms[j]?))&&(ns.length==ms.length))=decide (ns=ms):=by
  rw[pG];simp only[oz,eU,mj,decide_eq_true_eq,beq_iff_eq];constructor
  · rintro⟨h,hl⟩;refine List.ext_getElem? fun i=>?_;by_cases hi:i<min ns.length ms.length
    ·exact h i hi
    ·rw[BE (by omega),BE (by omega)]
  ·rintro rfl;exact⟨fun _ _=>rfl,rfl⟩
theorem Gx{q:Addr}{pU cV:cv}{ms:bK}(h1:IsTup s.heap p pU.toArray)(h2:IsTup s.heap q cV.toArray)(r1:Vals (ns.map V.int) pU)(r2:Vals (ms.map V.int) cV)(hu:A.units<cLine):SeqAt.EqAt A s (.ref p) (.ref q) (decide (ns=ms)):=by
  by_cases e:p=q
  · subst e;obtain⟨o,e1,_,n,d1⟩:=h1;obtain⟨o',e2,_,n',d2⟩:=h2;rw[e1] at e2;cases e2;rw[d1] at d2;injection d2 with d3 _;have e3:pU=cV:=by simpa using fS Array.toList d3
    subst e3;have e4:=r1.inj r2;have e5:ns=ms:=by have:=fS (List.map fun v=>match v with|V.int i=>i|_=>0) e4;simpa[fA,Function.comp_def] using this
    rw[mh e5];exact SeqAt.EqAt.same _
  · have l1:pU.length=ns.length:=by have:=r1.length;simpa using this.symm
    have l2:cV.length=ms.length:=by have:=r2.length;simpa using this.symm
    have key:=SeqAt.RcAt.tuples (A:=A) (e:=fun j=>decide (ns[j]?=ms[j]?)) (show s.heap.IsTuple p pU.toArray from h1) (show s.heap.IsTuple q cV.toArray from h2) hu (fun j q1 q2=>by
      have VZ:j<ns.length:=by simpa[l1] using q1
      have VY:j<ms.length:=by simpa[l2] using q2
      obtain⟨u,V0,ru⟩:=r1.get (i:=j) (x:=.int ns[j]) (by simp[VZ]);obtain⟨v,hv1,rv⟩:=r2.get (i:=j) (x:=.int ms[j]) (by simp[VY]);obtain⟨t,rfl⟩:=ru;obtain⟨t',rfl⟩:=rv;have a1:pU.toArray[j]=.int ns[j] t:=by
        have:pU.toArray[j]?=some (.int ns[j] t):=by simpa using V0
        rw[ug q1] at this;exact jG this
      have a2:cV.toArray[j]=.int ms[j] t':=by
        have:cV.toArray[j]?=some (.int ms[j] t'):=by simpa using hv1
        rw[ug q2] at this;exact jG this
      rw[a1,a2];have e:decide (ns[j]?=ms[j]?)=(ns[j]==ms[j]):=by rw[eP VZ,eP VY,pG];simp
      rw[e];exact SeqAt.EqAt.int_int _ _ _ _)
    rw[show pU.toArray.size=ns.length by simpa using l1,show cV.toArray.size=ms.length by simpa using l2,all_eq] at key;exact SeqAt.EqAt.of_refs e key
section
variable {X:Cx}
theorem kO:∀ns:bK,HT.lexLt ns ns=false
  |[]=>rfl
  |x::r=>by rw[HT.gX,ay rfl];exact kO r
theorem MA{i:Int}(I:Inv X pins σ H s)(h:gw X.K H a [.int i,.ref p]):∃t,IsTup s.heap a [Value.int i t,Value.ref p].toArray:=by obtain⟨its,rv,ht,_⟩:=I.tuple h;obtain⟨u,v,rfl,ru,rv'⟩:=vals2 rv;obtain⟨t,rfl⟩:=ru;cases rv';exact⟨t,ht⟩
theorem zZ:mw X (.builtin "isinstance") (fun xs H Q=>∃x T t b,xs=[x,.ty T]∧oF X.K H x t∧kitOne X.K t (.type T)=some b∧Q (.bl b) H):=by intro pins s σ H xs us Q I r h;obtain⟨x,T,t,b,rfl,ty,e,q⟩:=h;obtain⟨u,v,rfl,ru,rv⟩:=vals2 r;cases rv;exact Ge I ru ty e fun tk=>⟨.bl b,H,I.tok tk,rfl,q⟩
end
end L2
namespace MB
open PySem PySem.W PyProof.Rows
variable {α β:Type}
def dP(lt:Nat→Nat→Bool):KasT α→α
  |.ret a=>a
  |.ask i j k=>dP lt (k (lt i j))
theorem iY(lt:Nat→Nat→Bool)(f:α→KasT β):∀t:KasT α,dP lt (t.bind f)=dP lt (f (dP lt t))
  |.ret _=>rfl
  |.ask i j k=>iY lt f (k (lt i j))
def kA(n:Nat)(P:α→Prop):KasT α→Prop
  |.ret a=>P a
  |.ask i j k=>i<n∧j<n∧∀b,kA n P (k b)
theorem kA.bind{P:α→Prop}{R:β→Prop}{f:α→KasT β}:∀{t:KasT α},kA n P t→(∀a,P a→kA n R (f a))→kA n R (t.bind f)
  |.ret a,h,hf=>hf a h
  |.ask _ _ _,h,hf=>⟨h.1,h.2.1,fun b=>kA.bind (h.2.2 b) hf⟩
theorem O9{cmp:Nat→Nat→(Bool→Shared→Prop)→Shared→Prop}{S:Shared→Prop}{lt:Nat→Nat→Bool}{n:Nat}{P:α→Prop}{Q:α→Shared→Prop}(MC:∀i j C s,i<n→j<n→S s→(∀s',S s'→C (lt i j) s')→cmp i j C s):∀(t:KasT α) (s:Shared),kA n P t→S s→(∀s',S s'→P (dP lt t)→Q (dP lt t) s')→t.kasWp cmp Q s
  |.ret a,s,h,hs,hq=>hq s hs h
  |.ask i j k,s,h,hs,hq=>MC i j _ s h.1 h.2.1 hs fun s' HB=>O9 MC (k (lt i j)) s' (h.2.2 _) HB hq
structure bC (n:Nat) (p:Array Nat):Prop where
  perm:p.Perm (List.range n).toArray
theorem bC.size{p:Array Nat}(h:bC n p):p.size=n:=by rw[h.perm.size_eq];simp
theorem bC.lt{p:Array Nat}(h:bC n p)(hn:0<n)(x:Nat):p.getD x 0<n:=by
  by_cases hx:x<p.size
  · have e:p.getD x 0=p[x]:=by simp[Array.getD,hx]
    rw[e];have hm:p[x]∈(List.range n):=by have:=(Array.perm_iff_toList_perm.mp h.perm).mem_iff (a:=p[x]);simp only[Array.mem_toList_iff] at this;exact this.mp (by simp)
    exact mj.mp hm
  · have e:p.getD x 0=0:=by simp[Array.getD,hx]
    rw[e];exact hn
theorem bC.inj{p:Array Nat}(h:bC n p)(hi:i<n)(hj:j<n)(e:p.getD i 0=p.getD j 0):i=j:=by
  have nd:p.toList.Nodup:=(Array.perm_iff_toList_perm.mp h.perm).nodup_iff.mpr (by simpa using List.nodup_range);have Hw:i<p.toList.length:=by simpa[h.size] using hi
  have Ja:j<p.toList.length:=by simpa[h.size] using hj
  have QI:i<p.size:=by simpa using Hw
  have hj2:j<p.size:=by simpa using Ja
  simp only[Array.getD,QI,hj2,dif_pos] at e;exact(List.getElem_inj (h₀:=Hw) (h₁:=Ja) nd).mp (by rw[Array.getElem_toList,Array.getElem_toList];exact e)
theorem bC.rev{p:Array Nat}(h:bC n p):bC n (kas_rev p i j):=⟨(mirror_perm _ _ _ _).trans h.perm⟩
theorem bC.Z8{p:Array Nat}(h:bC n p):bC n (bubble p i j):=⟨(bubble_perm _ _ _).trans h.perm⟩
theorem bC.id(n:Nat):bC n (List.toArray (List.range n)):=⟨Array.Perm.refl _⟩
theorem pV{p q:Array Nat}(h:p[i]?=q[j]?):p.getD i 0=q.getD j 0:=by rw[Array.getD_eq_getD_getElem?,Array.getD_eq_getD_getElem?,h]
theorem Ep{p:Array Nat}(hj:j≤p.size)(k:Nat):(kas_rev p i j).getD k 0=if i≤k∧k<j then p.getD (i+j-1-k) 0 else p.getD k 0:=by
  have e:=getElem?_mirror_all (xs:=p) (i:=i) hj k;unfold kas_rev;by_cases h:i≤k∧k<j
  ·rw[ay h] at e⊢;exact pV e
  ·rw[az h] at e⊢;exact pV e
theorem Er{p:Array Nat}{src d:Nat}(hs:src<p.size)(hd:d≤src)(k:Nat):(bubble p src d).getD k 0=if k=src-d then p.getD src 0 else if src-d<k∧k≤src then p.getD (k-1) 0 else p.getD k 0:=by
  have e:=getElem?_bubble hs d hd k;by_cases h1:k=src-d
  ·rw[ay h1] at e⊢;exact pV e
  · rw[az h1] at e⊢;by_cases h2:src-d<k∧k≤src
    ·rw[ay h2] at e⊢;exact pV e
    ·rw[az h2] at e⊢;exact pV e
structure j5 (n:Nat) (lt:Nat→Nat→Bool):Prop where
  tr:∀i j k,i<n→j<n→k<n→lt i j=true→lt j k=true→lt i k=true
  V1:∀i j,i<n→j<n→i≠j→lt i j=false→lt j i=true
def Up(lt:Nat→Nat→Bool)(p:Array Nat)(k:Nat):Prop:=∀i j,i<j→j<k→lt (p.getD i 0) (p.getD j 0)=true
def Down(lt:Nat→Nat→Bool)(p:Array Nat)(k:Nat):Prop:=∀i j,i<j→j<k→lt (p.getD j 0) (p.getD i 0)=true
section
variable {n:Nat} {lt:Nat→Nat→Bool} {p:Array Nat}
theorem Up.snoc(S:j5 n lt)(P:bC n p)(hk:1≤k)(hkn:k<n)(h:Up lt p k)(e:lt (p.getD (k-1) 0) (p.getD k 0)=true):Up lt p (k+1):=fun i j pA hj=>by
  have l:=P.lt (by omega:0<n);by_cases Es:j<k
  ·exact h i j pA Es
  · have ej:j=k:=by omega
    subst ej;by_cases hi:i=j-1
    ·rw[hi];exact e
    ·exact S.tr _ _ _ (l _) (l _) (l _) (h i (j-1) (by omega) (by omega)) e
theorem Down.snoc(S:j5 n lt)(P:bC n p)(hk:1≤k)(hkn:k<n)(h:Down lt p k)(e:lt (p.getD k 0) (p.getD (k-1) 0)=true):Down lt p (k+1):=fun i j pA hj=>by
  have l:=P.lt (by omega:0<n);by_cases Es:j<k
  ·exact h i j pA Es
  · have ej:j=k:=by omega
    subst ej;by_cases hi:i=j-1
    ·rw[hi];exact e
    ·exact S.tr _ _ _ (l _) (l _) (l _) e (h i (j-1) (by omega) (by omega))
theorem Ca(S:j5 n lt)(P:bC n p):∀(f k:Nat),1≤k→k+f=n→Up lt p k→k≤dP lt (kas_asc p f k)∧dP lt (kas_asc p f k)≤n∧Up lt p (dP lt (kas_asc p f k))∧(dP lt (kas_asc p f k)<n→lt (p.getD (dP lt (kas_asc p f k)) 0) (p.getD (dP lt (kas_asc p f k)-1) 0)=true)
  |0,k,h1,h2,h=>⟨bG _,by show k≤n;omega,h,fun z=>absurd (show k<n from z) (by omega)⟩
  |f+1,k,h1,h2,h=>by
   show k≤dP lt (if lt (p.getD k 0) (p.getD (k-1) 0)=true then _ else _)∧_;by_cases c:lt (p.getD k 0) (p.getD (k-1) 0)=true
   · simp only[kas_asc,dP,c,cw];refine⟨bG _,by omega,h,fun _=>?_⟩
     first|exact c|trivial
   · have c':lt (p.getD k 0) (p.getD (k-1) 0)=false:=by simpa using c
     have l:=P.lt (by omega:0<n);have e:lt (p.getD (k-1) 0) (p.getD k 0)=true:=S.V1 _ _ (l _) (l _) (fun z=>by have:=P.inj (by omega) (by omega) z;omega) c';have ih:=Ca S P f (k+1) (by omega) (by omega) (h.snoc S P h1 (by omega) e);simp only[kas_asc,dP,c',uh,jJ];exact⟨by omega,ih.2⟩
theorem Et(S:j5 n lt)(P:bC n p):∀(f k:Nat),1≤k→k+f=n→Down lt p k→∃m,dP lt (kas_desc f p k 0)=(p,m,0)∧k≤m∧m≤n∧Down lt p m
  |0,k,h1,h2,h=>⟨k,rfl,bG _,by omega,h⟩
  |f+1,k,h1,h2,h=>by
   have l:=P.lt (by omega:0<n);by_cases c:lt (p.getD k 0) (p.getD (k-1) 0)=true
   ·obtain⟨m,e,h3,h4,h5⟩:=Et S P f (k+1) (by omega) (by omega) (h.snoc S P h1 (by omega) c);refine⟨m,?_,by omega,h4,h5⟩;simp only[kas_desc,dP,c,cw,rn,gt_iff_lt,jJ];exact e
   · have c':lt (p.getD k 0) (p.getD (k-1) 0)=false:=by simpa using c
     have e:lt (p.getD (k-1) 0) (p.getD k 0)=true:=S.V1 _ _ (l _) (l _) (fun z=>by have:=P.inj (by omega) (by omega) z;omega) c';refine⟨k,?_,bG _,by omega,h⟩;simp only[kas_desc,dP,c',uh,jJ,e,cw]
theorem Down.rev(P:bC n p)(hk:k≤n)(h:Down lt p k):Up lt (kas_rev p 0 k) k:=fun i j pA hj=>by
  have hz:k≤p.size:=by rw[P.size];exact hk
  rw[Ep hz,Ep hz,ay (by omega),ay (by omega)];exact h _ _ (by omega) (by omega)
theorem Jb(S:j5 n lt)(P:bC n p)(h2:2≤n):∃m q,dP lt (kas_count n p)=(m,q)∧1≤m∧m≤n∧bC n q∧Up lt q m:=by
  have l:=P.lt (by omega:0<n);have a:=Ca S P (n-1) 1 (bG _) (by omega) (fun i j pA hj=>by omega);unfold kas_count;rw[iY];generalize hm:dP lt (kas_asc p (n-1) 1)=m at a;obtain⟨a1,a2,a3,a4⟩:=a;by_cases hn:m=n
  ·subst hn;refine⟨m,p,?_,by omega,bG _,P,a3⟩;simp[dP]
  · have hb:(m==n)=false:=by simpa using hn
    simp only[hb,uh,jJ];by_cases h1:m>1
    ·have e:=a3 0 (m-1) (by omega) (by omega);refine⟨m,p,?_,by omega,a2,P,a3⟩;simp only[h1,cw,dP,e]
    · have em:m=1:=by omega
      subst em;simp only[gt_iff_lt,rn,jJ];have d0:Down lt p 2:=fun i j pA hj=>by
        have ei:i=0:=by omega
        have ej:j=1:=by omega
        subst ei ej;exact a4 (by omega)
      obtain⟨m,e,h3,h4,h5⟩:=Et S P (n-2) 2 (by omega) (by omega) d0;unfold kas_descPart;rw[iY];have e':dP lt (kas_desc (n-(1+1)) p (1+1) 0)=(p,m,0):=e;rw[e'];simp only[gt_iff_lt,rn,jJ];unfold kas_tail3;rw[iY];have P':bC n (kas_rev p 0 m):=P.rev;have b:=Ca S P' (n-m) m (by omega) (by omega) (h5.rev P h4);exact⟨_,_,rfl,by show 1≤dP lt (kas_asc (kas_rev p 0 m) (n-m) m);omega,b.2.1,P',b.2.2.1⟩
theorem uv(S:j5 n lt)(P:bC n p){k:Nat}(hk:k<n)(hU:Up lt p k):∀(f a b:Nat),a≤b→b≤k→b-a≤f→(∀i,i<a→lt (p.getD i 0) (p.getD k 0)=true)→(∀i,b≤i→i<k→lt (p.getD k 0) (p.getD i 0)=true)→dP lt (kas_place p k f a b)≤k∧(∀i,i<dP lt (kas_place p k f a b)→lt (p.getD i 0) (p.getD k 0)=true)∧(∀i,dP lt (kas_place p k f a b)≤i→i<k→lt (p.getD k 0) (p.getD i 0)=true)
  |0,a,b,pC,V2,hf,hl,hh=>by
   have e:a=b:=by omega
   subst e;exact⟨V2,hl,hh⟩
  |f+1,a,b,pC,V2,hf,hl,hh=>by
   have l:=P.lt (by omega:0<n);by_cases Eo:a≥b
   · have e:a=b:=by omega
     subst e;simp only[kas_place,ge_iff_le,bG,cw,dP];exact⟨V2,hl,hh⟩
   · have dY:a<b:=by omega
     by_cases c:lt (p.getD k 0) (p.getD ((a+b) / 2) 0)=true
     · have ih:=uv S P hk hU f a ((a+b) / 2) (by omega) (by omega) (by omega) hl (fun i h1 h2=>by
         by_cases e:i=(a+b) / 2
         ·rw[e];exact c
         ·exact S.tr _ _ _ (l _) (l _) (l _) c (hU _ _ (by omega) h2))
       simp only[kas_place,Eo,jJ,dP,c,cw];exact ih
     · have c':lt (p.getD k 0) (p.getD ((a+b) / 2) 0)=false:=by simpa using c
       have e:lt (p.getD ((a+b) / 2) 0) (p.getD k 0)=true:=S.V1 _ _ (l _) (l _) (fun z=>by have:=P.inj (by omega) (by omega) z;omega) c';have ih:=uv S P hk hU f ((a+b) / 2+1) b (by omega) V2 (by omega) (fun i h1=>by
         by_cases e':i=(a+b) / 2
         ·rw[e'];exact e
         ·exact S.tr _ _ _ (l _) (l _) (l _) (hU i ((a+b) / 2) (by omega) (by omega)) e) hh
       simp only[kas_place,Eo,jJ,dP,c',uh];exact ih
theorem Jc(S:j5 n lt):∀(f:Nat) (p:Array Nat) (k:Nat),bC n p→k+f=n→Up lt p k→bC n (dP lt (kas_bin f p k))∧Up lt (dP lt (kas_bin f p k)) n
  |0,p,k,P,e,h=>by
   have ek:k=n:=by omega
   subst ek;exact⟨P,h⟩
  |f+1,p,k,P,e,h=>by
   have hk:k<n:=by omega
   obtain⟨h1,h2,h3⟩:=uv S P hk h k 0 k (by omega) (bG _) (by omega) (fun i hi=>by omega) (fun i h1 h2=>by omega);show bC n (dP lt ((kas_place p k k 0 k).bind _))∧Up lt (dP lt ((kas_place p k k 0 k).bind _)) n;rw[iY];generalize dP lt (kas_place p k k 0 k)=l at h1 h2 h3;refine Jc S f (bubble p k (k-l)) (k+1) P.Z8 (by omega) fun i j pA hj=>?_;have hs:k<p.size:=by rw[P.size];exact hk
   rw[Er hs (by omega),Er hs (by omega),show k-(k-l)=l by omega];by_cases c1:i=l
   ·rw[ay c1,az (show ¬ j=l by omega),ay (show l<j∧j≤k by omega)];exact h3 _ (by omega) (by omega)
   · rw[az c1];by_cases c2:l<i∧i≤k
     ·rw[ay c2,az (show ¬ j=l by omega),ay (show l<j∧j≤k by omega)];exact h _ _ (by omega) (by omega)
     · rw[az c2];by_cases c3:j=l
       ·rw[ay c3];exact h2 _ (by omega)
       · rw[az c3];by_cases c4:l<j∧j≤k
         ·rw[ay c4];exact h _ _ (by omega) (by omega)
         ·rw[az c4];exact h _ _ (by omega) (by omega)
theorem MD(S:j5 n lt)(h2:2≤n):bC n (dP lt (kas_sort n))∧Up lt (dP lt (kas_sort n)) n:=by
  obtain⟨m,q,e,h1,h3,P,U⟩:=Jb S (bC.id n) h2;unfold kas_sort;rw[iY,e];by_cases hm:m<n
  · simp only[hm,cw];have em:max m 1=m:=by omega
    rw[em];exact Jc S (n-m) q m P (by omega) U
  · simp only[hm,jJ,dP];have em:m=n:=by omega
    subst em;exact⟨P,U⟩
end
section
variable {n:Nat}
theorem ya{p:Array Nat}(hn:0<n)(P:bC n p):∀(f k:Nat),kA n (fun _=>True) (kas_asc p f k)
  |0,_=>True.intro
  |f+1,k=>⟨P.lt hn _,P.lt hn _,fun b=>by
   cases b with
   |true=>exact True.intro
   |false=>exact ya hn P f (k+1)⟩
theorem pW(hn:0<n):∀(f:Nat) (p:Array Nat) (k q:Nat),bC n p→kA n (fun r=>bC n r.1) (kas_desc f p k q)
  |0,_,_,_,P=>P
  |f+1,p,k,q,P=>⟨P.lt hn _,P.lt hn _,fun b=>by
   cases b with
   |true =>
    simp only[cw];split
    ·exact pW hn f _ _ _ P.rev
    ·exact pW hn f _ _ _ P
   |false =>
    simp only[uh,jJ];refine⟨P.lt hn _,P.lt hn _,fun d=>?_⟩;cases d with
    |true=>exact P
    |false=>exact pW hn f _ _ _ P⟩
theorem z0{p:Array Nat}(hn:0<n)(P:bC n p)(k m:Nat):kA n (fun r=>bC n r.2) (kas_tail3 k m p):=by unfold kas_tail3;exact kA.bind (ya hn (P.rev (i:=0) (j:=k)) _ _) fun a _=>(P.rev (i:=0) (j:=k))
theorem z4{p:Array Nat}(hn:0<n)(P:bC n p)(k m:Nat):kA n (fun r=>bC n r.2) (kas_descPart k m p):=by
  unfold kas_descPart;refine kA.bind (pW hn _ _ _ _ P) fun r hr=>?_;split
  ·exact z0 hn hr.rev _ _
  ·exact z0 hn hr _ _
theorem Gy{p:Array Nat}(hn:0<n)(P:bC n p)(m:Nat):kA n (fun r=>bC n r.2) (kas_count m p):=by
  unfold kas_count;refine kA.bind (ya hn P _ _) fun r _=>?_;split
  ·exact P
  · split
    · refine⟨P.lt hn _,P.lt hn _,fun b=>?_⟩;cases b with
      |true=>exact P
      |false=>exact z4 hn P.rev _ _
    ·exact z4 hn P _ _
theorem rM{p:Array Nat}(hn:0<n)(P:bC n p)(k:Nat):∀(f a b:Nat),kA n (fun _=>True) (kas_place p k f a b)
  |0,_,_=>True.intro
  |f+1,a,b=>by
   unfold kas_place;split
   ·exact True.intro
   · refine⟨P.lt hn _,P.lt hn _,fun c=>?_⟩;cases c with
     |true=>exact rM hn P k f _ _
     |false=>exact rM hn P k f _ _
theorem Eu(hn:0<n):∀(f:Nat) (p:Array Nat) (k:Nat),bC n p→kA n (bC n) (kas_bin f p k)
  |0,_,_,P=>P
  |f+1,p,k,P=>kA.bind (rM hn P k _ _ _) fun l _=>Eu hn f _ _ P.Z8
theorem Jd(hn:0<n):kA n (bC n) (kas_sort n):=by
  unfold kas_sort;refine kA.bind (Gy hn (bC.id n) n) fun r hr=>?_;split
  ·exact Eu hn _ _ _ hr
  ·exact hr
end
end MB
namespace L2
open PySem
def fB(h:Heap)(d:Addr)(es:Array DictEntry)(ep:Nat):Prop:=∃o,h.get? d=some o∧o.ExactDict∧o.data=.dict es ep
section
variable {prog:Program} {w:World} {A:Around} {E:fR} {s:Shared}
theorem tD(hd:(d==sysModules)=false)(hm:fB s.heap d es ep)(hQ:Q (.ref s.heap.objs.size) { s with heap:=s.heap.push { cls:=.type "dict_keyiterator",data:=.fields #[.ref d,.int 0 0,.int es.size 0,.int ep 0] } }):wpAny (model prog w) A (pyIter (.ref d)) Q E s:=by
  have yb:=hm;obtain⟨o,ho,hc,hq⟩:=yb;have hT:s.TypeIs (.ref d) "dict":=⟨o,ho,hc.1⟩
  have gR:∀{R:Unit→Shared→Prop} {F:fR},R () s→wpAny (model prog w) A.in1 (Builtin.Dict.showsAll d) R F s:=fun r=>by unfold Builtin.Dict.showsAll;rw[hd];exact cu r
  refine wpAny_pyIter_slot hT F.slot_dict_iter (nL F.slot_dict_iter hT F.entry_dict_iter ?_ (F.args_dict_iter_1 _));refine aT (aT (wpAny_notOrdered_dict hT (cu ?_)));refine aT (cu (aT (gR (aT (xF ho hq (aT (wpAny_dictEpoch ho hq ?_)))))));exact aT (wpAny_newObj_type (cu ⟨_,rfl,_,_,⟨_,cT _ rfl,rfl⟩,F.slot_dict_keyiterator_next.lookup,by simpa[rawInt] using hQ⟩))
theorem mD{Q:fu→Shared→Prop}(hit:s.heap.IsKeyIter it d i es.size ep)(hm:fB s.heap d es ep)(dY:i<es.size)(hQ:∀h',h'.IsKeyIter it d (i+1) es.size ep→Heap.SameBut it s.heap h'→Q (some es[i].key) { s with heap:=h' }):wpAny (model prog w) A (pyNext (.ref it)) Q E s:=by
  have hT:=hit.typeIs;have wx:=hit;have yb:=hm;obtain⟨o,ho,hc,hd⟩:=wx;obtain⟨od,z8,dR,z9⟩:=yb;refine aT (wpAny_attempt (vZ hT F.slot_dict_keyiterator_next (nL F.slot_dict_keyiterator_next hT F.entry_dict_keyiterator_next ?_ (F.args_dict_keyiterator_next_1 _))));unfold Builtin.«dict_keyiterator.__next__»
  wp_walk using wpAny_typeNameOfWhole_keyiter hT,wpAny_fieldsOf ho hd,xF z8 z9,wpAny_dictEpoch z8 z9
  rw[show(if (i:Int)<0 then none else es[(i:Int).toNat]?)=some es[i] by rw[az (by omega),rj,ug dY]];refine aT (aT (wpAny_typeNameOfWhole_keyiter hT (cu (aT (wpAny_isOneOf_keyiter hT (aT ?_))))));have up:∀(f:Obj→Obj),f=Obj.mapFields (·.setIfInBounds 1 (rawInt ((i:Int)+1)))→(s.heap.update it f).IsKeyIter it d (i+1) es.size ep:=fun f e=>by subst e;exact⟨_,sX _ ho (Obj.isFreed_of_fields (Obj.data_mapFields hd _)),(Obj.cls_mapFields ..).trans hc,(Obj.data_mapFields hd _).trans (by simp[rawInt])⟩
  refine wpAny_setField (i:=1) (x:=rawInt ((i:Int)+1)) ho hd (by simp) (aT (pI ?_));have QL:=(up _ rfl).typeIs (s:={ s with heap:=s.heap.update it (Obj.mapFields (·.setIfInBounds 1 (rawInt ((i:Int)+1)))) });exact aT (wpAny_isOneOf_keyiter QL (cu (cu ⟨_,rfl,cu (hQ _ (up _ rfl) (pE ..))⟩)))
theorem nO{Q:fu→Shared→Prop}(hh:A.handled=none)(hit:s.heap.IsKeyIter it d i es.size ep)(hm:fB s.heap d es ep)(hx:es.size≤i)(hQ:∀h',Heap.ExtBut it s.heap h'→Q none { s with heap:=h' }):wpAny (model prog w) A (pyNext (.ref it)) Q E s:=by
  have hT:=hit.typeIs;have yb:=hm;obtain⟨o,ho,hc,hd⟩:=hit;obtain⟨od,z8,dR,z9⟩:=yb;refine aT (wpAny_attempt (vZ hT F.slot_dict_keyiterator_next (nL F.slot_dict_keyiterator_next hT F.entry_dict_keyiterator_next ?_ (F.args_dict_keyiterator_next_1 _))));unfold Builtin.«dict_keyiterator.__next__»
  wp_walk using wpAny_typeNameOfWhole_keyiter hT,wpAny_fieldsOf ho hd,xF z8 z9,wpAny_dictEpoch z8 z9
  rw[show(if (i:Int)<0 then none else es[(i:Int).toNat]?)=none by rw[az (by omega),rj,BD hx]];refine aT (aT (wpAny_typeNameOfWhole_keyiter hT (cu (aT (wpAny_setField (i:=0) (x:=.none) ho hd (by simp) ?_)))));have s1:=pE s.heap it (Obj.mapFields (·.setIfInBounds 0 Value.none))
  wp_walk
  unfold raiseNew;have Hz:A.in1.handled=none:=by simpa using hh
  refine aT (wpAny_handled ?_);rw[Hz];refine aT (cu (wpAny_throw ?_));refine aT (wpAny_isInstance ⟨_,cT _ rfl,rfl⟩ isSubtype_stop (cu (hQ _ fun b o n e=>?_)));exact eo _ (eo _ (s1.extBut b o n e))
end
end L2
namespace L2
open PySem PySem.Spec PyProof.Rows
section
variable {X:Cx} {pins:gu} {σ:St} {H:Hp} {s:Shared}
theorem Inv.freeze(I:Inv X pins σ H s)(h:H d=some (.dT ao)):∃o,s.heap.get? d=some o∧Inv X pins σ (upd H d (.gL o (.dT ao))) s:=by
  obtain⟨z,y,xs,r,o,es,ep,h1,h2,h3,h4,h5⟩:=(show bR X.prog X.w H s.heap d (.dT ao) from I.bU d _ h)
  refine⟨o,h1,⟨I.ok,I.os,I.bare,⟨I.base.keep,I.base.slot,fun b u e n hx=>?_,I.base.there,fun b xs e=>?_,fun b u xs e=>?_,fun b ps e=>?_⟩,I.loc,I.cell,?_,fun x c e=>?_,fun p hp=>?_,fun b u e=>?_,I.len⟩⟩
  ·have q:=I.base.free b u e n hx;rw[ai (fun z=>by rw[z,h] at q;cases q)];exact q
  ·have q:=I.base.oB b xs e;rw[ai (mr q h (fun z=>nomatch z))];exact q
  ·have q:=I.base.oC b u xs e;rw[ai (mr q h (fun z=>nomatch z))];exact q
  ·obtain⟨m,q⟩:=I.base.rA b ps e;exact⟨m,by rw[ai (mr q h (fun z=>nomatch z))];exact q⟩
  ·have q:=I.free;rw[ai (fun z=>by rw[z,h] at q;cases q)];exact q
  ·have q:=I.fI x c e;rw[ai (fun z=>by rw[z,h] at q;cases q)];exact q
  ·obtain⟨e,n,rr⟩:=I.pin p hp;exact⟨e,by rw[ai (fun z=>by rw[z,h] at n;cases n)];exact n,rr⟩
  · have ho:∀c,H c=some (.own b)→upd H d (.gL o (.dT ao)) c=some (.own b):=fun c q=>by
      rw[ai (mr q h (fun z=>nomatch z))];exact q
    have ht:∀c ys,H c=some (.tup ys)→upd H d (.gL o (.dT ao)) c=some (.tup ys):=fun c ys q=>by rw[ai (mr q h (fun z=>nomatch z))];exact q
    by_cases hb:b=d
    ·subst hb;rw[ax] at e;cases e;exact⟨h1,(I.bU b _ h).gR (fun _ _ _ q=>q) ho ht⟩
    ·rw[ai hb] at e;exact(I.bU b u e).gR (fun _ _ _ q=>q) ho ht
end
theorem nc{α β:Type}{F:α→β→Prop}:∀{l:List α} {m:List β} {i:Nat} {x:α},Paired F l m→l[i]?=some x→∃y,m[i]?=some y∧F x y
  |_,_,_,_,.nil,e=>by simp at e
  |_,_,0,_,.cons r _,e=>by simp at e;subst e;exact⟨_,rfl,r⟩
  |_,_,i+1,x,.cons _ t,e=>by obtain⟨y,h1,h2⟩:=nc (i:=i) (x:=x) t (by simpa using e);exact⟨y,by simpa using h1,h2⟩
end L2
namespace L2
open PySem PySem.Spec PyProof.Rows PySem.W MB
def kB(d e:Int×bK):Bool:=if d.1=e.1 then HT.lexLt d.2 e.2 else decide (d.1<e.1)
theorem Aa:∀{a b c:bK},HT.lexLt a b=true→HT.lexLt b c=true→HT.lexLt a c=true
  |[],[],_,h,_=>by simp[HT.nS] at h
  |[],_::_,[],_,h=>by simp[HT.fU] at h
  |[],_::_,_::_,_,_=>rfl
  |_::_,[],_,h,_=>by simp[HT.fU] at h
  |_::_,_::_,[],_,h=>by simp[HT.fU] at h
  |x::r,y::t,z::u,h1,h2=>by
   rw[HT.gX] at h1 h2⊢;by_cases e1:x=y
   · rw[ay e1] at h1;by_cases e2:y=z
     ·rw[ay e2] at h2;rw[ay (e1.trans e2)];exact Aa h1 h2
     ·rw[az e2] at h2;rw[az (fun q=>e2 (e1.symm.trans q)),e1];exact h2
   · rw[az e1] at h1;have l1:x<y:=by simpa using h1
     by_cases e2:y=z
     ·rw[az (fun q=>e1 (q.trans e2.symm)),←e2];exact h1
     · rw[az e2] at h2;have l2:y<z:=by simpa using h2
       rw[az (by omega)];simp;omega
theorem xa:∀{a b:bK},a≠b→HT.lexLt a b=false→HT.lexLt b a=true
  |[],[],h,_=>absurd rfl h
  |[],_::_,_,h=>by simp[HT.mx] at h
  |_::_,[],_,_=>rfl
  |x::r,y::t,lX,h=>by
   rw[HT.gX] at h⊢;by_cases e:x=y
   ·rw[ay e] at h;rw[ay e.symm];exact xa (fun q=>lX (by rw[e,q])) h
   · rw[az e] at h;rw[az (fun q=>e q.symm)];have:¬ x<y:=by simpa using h
     simp;omega
theorem rN{a b c:Int×bK}(h1:kB a b=true)(h2:kB b c=true):kB a c=true:=by
  unfold kB at *;by_cases e1:a.1=b.1
  · rw[ay e1] at h1;by_cases e2:b.1=c.1
    ·rw[ay e2] at h2;rw[ay (e1.trans e2)];exact Aa h1 h2
    ·rw[az e2] at h2;rw[az (fun q=>e2 (e1.symm.trans q)),e1];exact h2
  · rw[az e1] at h1;have l1:a.1<b.1:=by simpa using h1
    by_cases e2:b.1=c.1
    ·rw[az (fun q=>e1 (q.trans e2.symm)),←e2];exact h1
    · rw[az e2] at h2;have l2:b.1<c.1:=by simpa using h2
      rw[az (by omega)];simp;omega
theorem tT{a b:Int×bK}(lX:a≠b)(h:kB a b=false):kB b a=true:=by
  unfold kB at *;by_cases e:a.1=b.1
  ·rw[ay e] at h;rw[ay e.symm];exact xa (fun q=>lX (Prod.ext e q)) h
  · rw[az e] at h;rw[az (fun q=>e q.symm)];have:¬ a.1<b.1:=by simpa using h
    simp;omega
def pairAt(H:Hp)(v:V)(d:Int×bK):Prop:=∃a p,v=.ref a∧H a=some (.tup [.int d.1,.ref p])∧H p=some (.tup (d.2.map V.int))
theorem pairAt.same{d:Int×bK}(x:pairAt H v d)(s:bH H H'):pairAt H' v d:=by obtain⟨a,p,e,h1,h2⟩:=x;exact⟨a,p,e,s _ _ h1,s _ _ h2⟩
theorem mE{α:Type}(l:List α)(d:α):(List.range l.length).map (fun i=>l.getD i d)=l:=by
  refine List.ext_getElem? fun i=>?_;rw[eS];by_cases h:i<l.length
  ·rw[List.getElem?_range h,eP h];simp[jb,h]
  ·rw[BE (by simpa using h),BE (by simpa using h)];rfl
theorem MF{α:Type}{p:Array Nat}{l:List α}(d:α)(h:bC l.length p):(p.toList.map fun i=>l.getD i d).Perm l:=by
  have h1:p.toList.Perm (List.range l.length):=by simpa using Array.perm_iff_toList_perm.mp h.perm
  have h2:=h1.map (fun i=>l.getD i d);rw[mE] at h2;exact h2
theorem Ab{α:Type}{p:Array Nat}{l:List α}(d:α)(R:α→α→Bool)(hn:bC l.length p)(h:Up (fun i j=>R (l.getD i d) (l.getD j d)) p l.length):(p.toList.map fun i=>l.getD i d).Pairwise (fun a b=>R a b=true):=by
  rw[List.pairwise_iff_getElem];intro i j hi hj pA;simp only[List.getElem_map,Array.getElem_toList];have hs:=hn.size;have Ja:j<p.size:=by simpa using hj
  have Hw:i<p.size:=by simpa using hi
  have q:=h i j pA (by omega);have e1:p.getD i 0=p[i]:=by simp[Array.getD,Hw]
  have e2:p.getD j 0=p[j]:=by simp[Array.getD,Ja]
  rw[e1,e2] at q;exact q
theorem cJ{α β:Type}{F:α→β→Prop}{l:List α}{m:List β}(h:Paired F l m)(hi:i<l.length)(d:α)(e:β):F (l.getD i d) (m.getD i e):=by obtain⟨y,h1,h2⟩:=nc (i:=i) (x:=l[i]) h (by simp[hi]);rw[jb,jb,h1,eP hi];exact h2
theorem oJ{α β γ:Type}{F:α→β→Prop}(f:γ→α)(g:γ→β):∀{l:List γ},(∀x∈l,F (f x) (g x))→Paired F (l.map f) (l.map g)
  |[],_=>.nil
  |x::r,h=>.cons (h x eR) (oJ f g fun y hy=>h y (et _ hy))
section
variable {X:Cx}
theorem wy{ds:By}(hd:ds.Nodup):j5 ds.length (fun i j=>kB (ds.getD i (0,[])) (ds.getD j (0,[]))) where
  tr:=fun i j k _ _ _ h1 h2=>rN h1 h2
  V1:=fun i j hi hj lX h=>tT (fun q=>lX (by
    rw[jb,jb,eP hi,eP hj] at q;exact(List.getElem_inj hd).mp q)) h
theorem rO(I:Inv X pins σ H s){d:Int×bK}(r:RelV v u)(h:pairAt H v d):∃a p t its,u=.ref a∧IsTup s.heap a [Value.int d.1 t,Value.ref p].toArray∧IsTup s.heap p its.toArray∧Vals (d.2.map V.int) its:=by
  obtain⟨a,p,rfl,h1,h2⟩:=h;cases r;obtain⟨t,ht⟩:=MA I (gw.of h1);obtain⟨its,rv,hp,_⟩:=I.tuple (gw.of h2);exact⟨a,p,t,its,rfl,ht,hp,rv⟩
end
end L2
namespace L2
open PySem PySem.Spec PyProof.Rows PySem.W
section
variable {X:Cx}
theorem Ac(hc:X.calm=true):mw X (.builtin "sum") (fun xs H Q=>∃(p:Addr) (ns:bK),xs=[.ref p]∧eW X.K H p (ns.map V.int)∧Q (.int ns.sum) H):=by
  intro pins s σ H xs us Q I r h;obtain⟨p,ns,rfl,hq,q⟩:=h;obtain⟨u,rfl,ru⟩:=vals1 r;cases ru;obtain⟨its,rv,hl,_⟩:=I.list hq;have hi:=intsAre_of rv;obtain⟨zs,ez⟩:=hi.allInts.items;refine sum_intListG (xs:=zs) (I.ok.hd hc) (by rw[←ez];exact hl.isList) fun h' tk t' hk=>?_;have e:preSum (numAt zs) zs.size=ns.sum:=by
    have e1:numsOf its=ns:=hi.numsOf;have e2:numsOf (intItems zs).toList=numsOf its:=by rw[←ez]
    rw[nums_intItems] at e2;rw[preSum_eq,List.take_of_length_le (by simp),e2,e1]
  rw[e];exact⟨.int ns.sum,H,I.kept hk,⟨_,rfl⟩,q⟩
end
end L2
namespace L2
open PySem PySem.Spec PyProof.Rows
structure mF (P:Program) (w:World) (K:PySem.W.Frag) (mg:Str→fu) (base:Heap) (k:Nat) (f:Addr) (ps:dC) (sp:Sp):Prop where
  ex:∃fd,cD P w K mg base mz k f fd ps sp∧Binds K fd ps []∧keepIn K (.ref f)=true
theorem Cb{f:Addr}{ps:dC}{sp:Sp}{p:Pos}{es:List Expr}{t:TA}(C:mF X.prog X.w X.K X.mg X.base k f ps sp)(hr:cU k X.A)(hg:Gl X x)(hm:X.mg x=some (.ref f))(ha:PA X (e::es) t)(iE:(x==("__debug__":Str))=false:=by decide)(he:starEach (e::es) X.env=(false,eval e X.env)::starEach es X.env:=by rfl)(m8:(backTo pos (starEach es X.env)).any (·.1)=false:=by rfl):PE X (.Call (.Name x p) (e::es) [] pos) (um sp [] E0 t):=by
  obtain⟨fd,G,b,kp⟩:=C.ex;exact pN G hr hg hm kp b .nil IE ha iE he m8
theorem fV(h:H p=none)(o:HO):bH H (upd H p o):=fun b u q=>by rw[ai (aP q h)];exact q
theorem Ad(n:Int):∀ms:bK,O6 (.int n) (ms.map V.int)=ms.contains n
  |[]=>rfl
  |m::r=>by
   have ih:=Ad n r;show(Iv (V.int m) (V.int n)||O6 (.int n) (r.map V.int))=_;rw[ih,List.contains_cons]
   congr 1
   show(m==n)=(n==m)
   rw[pG];simp;exact eq_comm
theorem Ew(h:n≤1000):n≤sizeLine:=ml (eF h)
def nU(count:Int)(ns:bK):Prop:=ns.Pairwise (·<·)∧∀n∈ns,0≤n∧n<count
theorem xc:∀{ns:bK} {lo:Int} {k:Nat},ns.Pairwise (·<·)→(∀n∈ns,lo≤n∧n<lo+k)→ns.length≤k
  |[],_,_,_,_=>iC _
  |x::r,lo,k,hp,hb=>by
   obtain⟨h1,h2⟩:=List.pairwise_cons.mp hp;have hx:=hb x eR;cases k with
   |zero=>omega
   |succ k =>
    have ih:=xc (ns:=r) (lo:=lo+1) (k:=k) h2 fun n hn=>by have a:=h1 n hn;have b:=hb n (et _ hn);omega
    simp only[eT];omega
theorem nU.le6{count:Int}(h:nU count ns)(hc:count≤6):ns.length≤6 :=
  xc (lo:=0) (k:=6) h.1 fun n hn=>by have:=h.2 n hn;omega
def Je(k:List Key):bK:=k.map fun x=>match x with|.inl i=>i|.inr _=>0
theorem xf(ns:bK):Je (ns.map Sum.inl)=ns:=by unfold Je;rw[fA];exact List.map_id' ns
structure DOk (count:Int) (ao:List (List Key×V)):Prop where
  nd:(ao.map (·.1)).Nodup
  all:∀kv∈ao,∃(ns:bK) (m:Int),kv=(ns.map Sum.inl,.int m)∧nU count ns∧1≤m
structure V3 (count:Int) (hs:dX):Prop where
  ne:hs≠[]
  all:∀h∈hs,nU count h.1∧1≤h.2
  up:hs.Pairwise (fun a b=>kB ((a.1.length:Int),a.1) ((b.1.length:Int),b.1)=true)
  len:hs.length≤63
end L2
namespace DL
open PySem PySem.Spec PyProof.Rows L2
inductive D where
  |non|bl (b:Bool)|int (i:Int)|str (x:Str)|tup (xs:List D)|lst (xs:List D)|obj (C:Addr)|exc (C:Addr)
def Uk(a C:Addr)(h:Heap):Prop:=∃o,h.get? a=some o∧o.cls=.ref C
def Ul:Str:="Most.order"
def Xl:Str:="Most.order.<locals>.<lambda>"
def QM(K:PySem.W.Frag):Option (Addr×Addr):=(K.find? fun p=>codeIn K (.ref p.1) Ul).bind fun p=>match p.2.data with
  |.fields vs=>(match (vs[11]?:fu) with|some (.ref P)=>some (p.1,P)|_=>none)
  |_=>none
def uw(K:PySem.W.Frag)(F:Hp):Prop:=∀c P,QM K=some (c,P)→F P=some (.LS #[.str Xl 0])
theorem uw.mono{K:PySem.W.Frag}(t:uw K F)(s:bH F F'):uw K F':=fun c P e=>s _ _ (t c P e)
mutual
def Den(K:PySem.W.Frag)(F:Hp):D→V→Prop
  |.non,v=>v=.non
  |.bl b,v=>v=.bl b
  |.int i,v=>v=.int i
  |.str x,v=>v=.str x
  |.tup ds,v=>∃a vs,v=.ref a∧F a=some (.tup vs)∧bz K F ds vs
  |.lst ds,v=>∃a vs,v=.ref a∧eW K F a vs∧bz K F ds vs
  |.obj C,v=>∃a dx,v=.ref a∧F a=some (.ins C dx [])∧uw K F
  |.exc C,v=>∃a,v=.ref a∧F a=some (.ext (Uk a C))
def bz(K:PySem.W.Frag)(F:Hp):List D→List V→Prop
  |[],vs=>vs=[]
  |d::ds,vs=>∃v r,vs=v::r∧Den K F d v∧bz K F ds r
end
mutual
def D.nP:D→Bool
  |.tup ds=>D.yc ds
  |.lst _=>false
  |.obj _=>false
  |.exc _=>false
  |_=>true
def D.yc:List D→Bool
  |[]=>true
  |d::ds=>D.nP d&&D.yc ds
end
section
variable {K:PySem.W.Frag} {F F' H:Hp}
theorem aI{ds:List D}:Den K F (.tup ds) v↔∃a vs,v=.ref a∧F a=some (.tup vs)∧bz K F ds vs:=by rw[Den]
theorem aK{ds:List D}:Den K F (.lst ds) v↔∃a vs,v=.ref a∧eW K F a vs∧bz K F ds vs:=by rw[Den]
theorem fW:Den K F (.obj C) v↔∃a dx,v=.ref a∧F a=some (.ins C dx [])∧uw K F:=by rw[Den]
theorem fX:Den K F (.exc C) v↔∃a,v=.ref a∧F a=some (.ext (Uk a C)):=by rw[Den]
theorem aD{i:Int}:Den K F (.int i) v↔v=.int i:=by rw[Den]
theorem bu{i:Bool}:Den K F (.bl i) v↔v=.bl i:=by rw[Den]
theorem aQ{i:Str}:Den K F (.str i) v↔v=.str i:=by rw[Den]
theorem bI:Den K F .non v↔v=.non:=by rw[Den]
theorem aO:bz K F [] vs↔vs=[]:=by rw[bz]
theorem av{d:D}{ds:List D}:bz K F (d::ds) vs↔∃v r,vs=v::r∧Den K F d v∧bz K F ds r:=by rw[bz]
theorem pX:∀{ds:List D} {vs:List V},bz K F ds vs↔Paired (fun d v=>Den K F d v) ds vs
  |[],vs=>by
   rw[aO];constructor
   ·rintro rfl;exact .nil
   ·intro h;cases h;rfl
  |d::ds,vs=>by
   rw[av];constructor
   ·rintro⟨v,r,rfl,h1,h2⟩;exact .cons h1 (pX.mp h2)
   · intro h;cases h with
     |cons h1 h2=>exact⟨_,_,rfl,h1,pX.mpr h2⟩
theorem aJ{ds:List D}(h:bz K F ds vs):ds.length=vs.length:=pJ (pX.mp h)
theorem Ae:∀{ds:List D} {vs:List V} {i:Nat} {d:D},bz K F ds vs→ds[i]?=some d→∃v,vs[i]?=some v∧Den K F d v
  |[],_,_,_,_,e=>by simp at e
  |x::ds,vs,0,d,h,e=>by obtain⟨v,r,rfl,h1,h2⟩:=av.mp h;simp at e;subst e;exact⟨v,rfl,h1⟩
  |x::ds,vs,i+1,d,h,e=>by obtain⟨v,r,rfl,h1,h2⟩:=av.mp h;obtain⟨w,e1,e2⟩:=Ae (i:=i) h2 (by simpa using e);exact⟨w,by simpa using e1,e2⟩
theorem iZ:∀{ds:List D} {vs:List V} {i:Nat} {v:V},bz K F ds vs→vs[i]?=some v→∃d,ds[i]?=some d∧Den K F d v
  |[],_,_,_,h,e=>by rw[aO.mp h] at e;simp at e
  |x::ds,vs,0,v,h,e=>by obtain⟨w,r,rfl,h1,h2⟩:=av.mp h;simp at e;subst e;exact⟨x,rfl,h1⟩
  |x::ds,vs,i+1,v,h,e=>by obtain⟨w,r,rfl,h1,h2⟩:=av.mp h;obtain⟨d,e1,e2⟩:=iZ (i:=i) h2 (by simpa using e);exact⟨d,by simpa using e1,e2⟩
theorem jL:∀{ds es:List D} {vs ws:List V},bz K F ds vs→bz K F es ws→bz K F (ds++es) (vs++ws)
  |[],es,vs,ws,h,h'=>by rw[aO.mp h];exact h'
  |x::ds,es,vs,ws,h,h'=>by obtain⟨v,r,rfl,h1,h2⟩:=av.mp h;exact av.mpr ⟨v,r++ws,rfl,h1,jL h2 h'⟩
theorem il{d:D}(h:Den K F d v):bz K F [d] [v]:=av.mpr ⟨v,[],rfl,h,aO.mpr rfl⟩
theorem rP{ds:List D}{d:D}(h:bz K F ds vs)(h':Den K F d v):bz K F (ds++[d]) (vs++[v]):=jL h (il h')
theorem rQ:∀{ds:List D} {vs:List V} (n:Nat),bz K F ds vs→bz K F (ds.take n) (vs.take n)
  |_,_,0,_=>aO.mpr rfl
  |[],vs,n+1,h=>by rw[aO.mp h];exact aO.mpr rfl
  |x::ds,vs,n+1,h=>by obtain⟨v,r,rfl,h1,h2⟩:=av.mp h;exact av.mpr ⟨v,r.take n,rfl,h1,rQ n h2⟩
theorem rR:∀{ds:List D} {vs:List V} (n:Nat),bz K F ds vs→bz K F (ds.drop n) (vs.drop n)
  |_,_,0,h=>h
  |[],vs,n+1,h=>by rw[aO.mp h];exact aO.mpr rfl
  |x::ds,vs,n+1,h=>by obtain⟨v,r,rfl,h1,h2⟩:=av.mp h;exact rR n h2
theorem Af:∀{ds:List D} {vs:List V} {d:D} {v:V} (n:Nat),bz K F ds vs→Den K F d v→bz K F (ds.set n d) (vs.set n v)
  |[],vs,_,_,n,h,_=>by rw[aO.mp h];exact aO.mpr rfl
  |x::ds,vs,d,v,0,h,h'=>by obtain⟨w,r,rfl,h1,h2⟩:=av.mp h;exact av.mpr ⟨v,r,rfl,h',h2⟩
  |x::ds,vs,d,v,n+1,h,h'=>by obtain⟨w,r,rfl,h1,h2⟩:=av.mp h;exact av.mpr ⟨w,r.set n v,rfl,h1,Af n h2 h'⟩
theorem pY:∀{ds:List D} {vs:List V},bz K F ds vs→bz K F ds.reverse vs.reverse
  |[],vs,h=>by rw[aO.mp h];exact aO.mpr rfl
  |x::ds,vs,h=>by obtain⟨v,r,rfl,h1,h2⟩:=av.mp h;rw[List.reverse_cons,List.reverse_cons];exact rP (pY h2) h1
theorem i6:∀(ns:bK),bz K F (ns.map D.int) (ns.map V.int)
  |[]=>aO.mpr rfl
  |n::ns=>av.mpr ⟨_,_,rfl,aD.mpr rfl,i6 ns⟩
theorem jh:∀{ns:bK} {vs:List V},bz K F (ns.map D.int) vs→vs=ns.map V.int
  |[],vs,h=>aO.mp h
  |n::ns,vs,h=>by obtain⟨v,r,rfl,h1,h2⟩:=av.mp h;rw[aD.mp h1,jh h2];rfl
theorem ji{xs:List V}(e:bH F F')(h:gw K F a xs):gw K F' a xs:=by
  rcases h with(h|⟨o,h⟩)|h
  ·exact .inl (.inl (e _ _ h))
  ·exact .inl (.inr ⟨o,e _ _ h⟩)
  ·exact .inr h
mutual
theorem aL(s:bH F F'):∀(d:D) (v:V),Den K F d v→Den K F' d v
  |.non,v,h=>bI.mpr (bI.mp h)
  |.bl b,v,h=>bu.mpr (bu.mp h)
  |.int i,v,h=>aD.mpr (aD.mp h)
  |.str x,v,h=>aQ.mpr (aQ.mp h)
  |.tup ds,v,h=>by obtain⟨a,vs,e,h1,h2⟩:=aI.mp h;exact aI.mpr ⟨a,vs,e,s _ _ h1,bp s ds vs h2⟩
  |.lst ds,v,h=>by obtain⟨a,vs,e,h1,h2⟩:=aK.mp h;exact aK.mpr ⟨a,vs,e,s.seq h1,bp s ds vs h2⟩
  |.obj C,v,h=>by obtain⟨a,dx,e,h1,h2⟩:=fW.mp h;exact fW.mpr ⟨a,dx,e,s _ _ h1,h2.mono s⟩
  |.exc C,v,h=>by obtain⟨a,e,h1⟩:=fX.mp h;exact fX.mpr ⟨a,e,s _ _ h1⟩
theorem bp(s:bH F F'):∀(ds:List D) (vs:List V),bz K F ds vs→bz K F' ds vs
  |[],vs,h=>aO.mpr (aO.mp h)
  |d::ds,vs,h=>by obtain⟨v,r,e,h1,h2⟩:=av.mp h;exact av.mpr ⟨v,r,e,aL s d v h1,bp s ds r h2⟩
end
def Bt:HO→Bool
  |.tup _=>true
  |_=>false
mutual
theorem ng(t:∀a o,H a=some o→Bt o=true→F a=some o):∀(d:D) (v:V),d.nP=true→Den K H d v→Den K F d v
  |.non,v,_,h=>bI.mpr (bI.mp h)
  |.bl b,v,_,h=>bu.mpr (bu.mp h)
  |.int i,v,_,h=>aD.mpr (aD.mp h)
  |.str x,v,_,h=>aQ.mpr (aQ.mp h)
  |.tup ds,v,i,h=>by obtain⟨a,vs,e,h1,h2⟩:=aI.mp h;exact aI.mpr ⟨a,vs,e,t _ _ h1 rfl,pZ t ds vs (by rw[D.nP] at i;exact i) h2⟩
  |.lst ds,v,i,h=>by rw[D.nP] at i;cases i
  |.obj C,v,i,h=>by rw[D.nP] at i;cases i
  |.exc C,v,i,h=>by rw[D.nP] at i;cases i
theorem pZ(t:∀a o,H a=some o→Bt o=true→F a=some o):∀(ds:List D) (vs:List V),D.yc ds=true→bz K H ds vs→bz K F ds vs
  |[],vs,_,h=>aO.mpr (aO.mp h)
  |d::ds,vs,i,h=>by obtain⟨v,r,e,h1,h2⟩:=av.mp h;rw[D.yc,oz] at i;exact av.mpr ⟨v,r,e,ng t d v i.1 h1,pZ t ds r i.2 h2⟩
end
theorem ux:∀(ds:List D),D.yc ds=ds.all D.nP
  |[]=>by rw[D.yc];rfl
  |d::ds=>by rw[D.yc,List.all_cons,ux ds]
theorem Ex(ds:List D):(D.tup ds).nP=ds.all D.nP:=by rw[D.nP,ux]
theorem p6(i:Int):(D.int i).nP=true:=by rw[D.nP]<;>intros<;>simp_all
theorem Ey(i:Str):(D.str i).nP=true:=by rw[D.nP]<;>intros<;>simp_all
theorem Jf(ns:bK):(ns.map D.int).all D.nP=true:=by rw[eU];intro d hd;obtain⟨n,_,rfl⟩:=gC.mp hd;exact p6 n
end
def nV:HO→Prop
  |.lst xs=>xs.length≤sizeLine
  |.tup xs=>xs.length≤sizeLine
  |.dT ao=>ao.length≤sizeLine
  |.dK ao=>ao.length≤sizeLine
  |.gL _ u=>nV u
  |_=>True
structure Base (F H:Hp):Prop where
  sub:bH F H
  tup:∀a o,H a=some o→Bt o=true→F a=some o
  sR:∀a o,H a=some o→nV o
structure aG (F H F' H':Hp):Prop where
  base:Base F' H'
  cz:bH F F'
  ent:bH H H'
  new:∀a o,F' a=some o→F a=some o∨H a=none∨Bt o=true
theorem aG.refl(b:Base F H):aG F H F H:=⟨b,bH.refl _,bH.refl _,fun _ _ h=>.inl h⟩
theorem aG.trans{F1 H1 F2 H2:Hp}(a:aG F H F1 H1)(b:aG F1 H1 F2 H2):aG F H F2 H2 :=
  ⟨b.base,a.cz.trans b.cz,a.ent.trans b.ent,fun x o h=>by
    rcases b.new x o h with h|h|h
    ·exact a.new x o h
    ·exact .inr (.inl (a.ent.free h))
    ·exact .inr (.inr h)⟩
theorem aG.put(b:Base F H)(hp:H p=none)(o:HO)(ho:nV o):aG F H (upd F p o) (upd H p o) where
  base:={
    sub:=fun a u h=>by
      by_cases e:a=p
      ·subst e;rw[ax] at h;rw[ax];exact h
      ·rw[ai e] at h;rw[ai e];exact b.sub a u h
    tup:=fun a u h t=>by
      by_cases e:a=p
      ·subst e;rw[ax] at h;rw[ax];exact h
      ·rw[ai e] at h;rw[ai e];exact b.tup a u h t
    sR:=fun a u h=>by
      by_cases e:a=p
      ·subst e;rw[ax] at h;cases h;exact ho
      ·rw[ai e] at h;exact b.sR a u h }
  cz:=fV (b.sub.free hp) o
  ent:=fV hp o
  new:=fun a u h=>by
    by_cases e:a=p
    ·subst e;exact .inr (.inl hp)
    ·rw[ai e] at h;exact .inl h
theorem aG.own(b:Base F H)(hp:H p=none)(o:HO)(ho:nV o)(ht:Bt o=false):aG F H F (upd H p o) where
  base:={
    sub:=fun a u h=>by rw[ai (aP (b.sub a u h) hp)];exact b.sub a u h
    tup:=fun a u h t=>by
      by_cases e:a=p
      ·subst e;rw[ax] at h;cases h;rw[ht] at t;cases t
      ·rw[ai e] at h;exact b.tup a u h t
    sR:=fun a u h=>by
      by_cases e:a=p
      ·subst e;rw[ax] at h;cases h;exact ho
      ·rw[ai e] at h;exact b.sR a u h }
  cz:=bH.refl _
  ent:=fV hp o
  new:=fun a u h=>.inl h
theorem aG.share(b:Base F H){F0 H0:Hp}(g:aG F0 H0 F H)(hp:H p=some o)(h0:H0 p=none):aG F0 H0 (upd F p o) H where
  base:={
    sub:=fun a u h=>by
      by_cases e:a=p
      ·subst e;rw[ax] at h;cases h;exact hp
      ·rw[ai e] at h;exact b.sub a u h
    tup:=fun a u h t=>by
      by_cases e:a=p
      ·subst e;rw[ax];rw[hp] at h;exact h
      ·rw[ai e];exact b.tup a u h t
    sR:=b.sR }
  cz:=fun a u h=>by
    by_cases e:a=p
    ·subst e;rw[ax];rw[b.sub a u (g.cz a u h)] at hp;exact hp.symm
    ·rw[ai e];exact g.cz a u h
  ent:=g.ent
  new:=fun a u h=>by
    by_cases e:a=p
    ·subst e;exact .inr (.inl h0)
    ·rw[ai e] at h;exact g.new a u h
theorem aG.write{F0 H0:Hp}(g:aG F0 H0 F H)(h0:H0 p=none)(hF:F p=none)(ho:nV o)(ht:Bt o=false):aG F0 H0 F (upd H p o) where
  base:={
    sub:=fun a u h=>by have e:a≠p:=aP h hF;rw[ai e];exact g.base.sub a u h
    tup:=fun a u h t=>by
      by_cases e:a=p
      ·subst e;rw[ax] at h;cases h;rw[ht] at t;cases t
      ·rw[ai e] at h;exact g.base.tup a u h t
    sR:=fun a u h=>by
      by_cases e:a=p
      ·subst e;rw[ax] at h;cases h;exact ho
      ·rw[ai e] at h;exact g.base.sR a u h }
  cz:=g.cz
  ent:=fun a u h=>by rw[ai (aP h h0)];exact g.ent a u h
  new:=g.new
end DL
variable {g:DL.D→DL.D→Option DL.D} {ds:List DL.D}
namespace DL
open PySem PySem.Spec L2
open PyProof.Rows hiding St
inductive Slot where
  |sh (d:D)|br (d:D)|ol (ds:List D)|ot (ao:List (List Key×D))|ft (ao:List (List Key×D))|ok (ao:List (Key×D))|fk (ao:List (Key×D))|pr (ds rest:List D)|pn (a:Addr) (d:D)
  |bx (p C:Addr) (ws:List D) (ao:List (List Key×D))|od (p:Addr) (ao:List (List Key×D))|bb (C:Addr) (ws:List D) (ao:List (List Key×D))|bd (ao:List (List Key×D))|rw(d:D) (l:List (Addr×List (List Key×D)))
abbrev aY:=List (Option Slot)
def Slot.dir:Slot→Bool
  |.ol _=>true
  |.ot _=>true
  |.ok _=>true
  |_=>false
def Slot.own:Slot→Bool
  |.pr _ _=>true
  |.bx _ _ _ _=>true
  |.od _ _=>true
  |s=>s.dir
theorem Slot.EA{s:Slot}(h:s.dir=true):s.own=true:=by cases s<;>first|rfl|cases h
structure Zc where
  F₀:Hp
  H₀:Hp
  E:Addr→Hp→Prop
def bV{κ:Type}(K:PySem.W.Frag)(F:Hp):List (κ×D)→List (κ×V)→Prop:=Paired fun p q=>p.1=q.1∧Den K F p.2 q.2
theorem bV.mono{κ:Type}{K:PySem.W.Frag}(s:bH F F'){ao:List (κ×D)}{ws:List (κ×V)}(h:bV K F ao ws):bV K F' ao ws:=Paired.HG h fun _ _ q=>⟨q.1,aL s _ _ q.2⟩
def tF(K:PySem.W.Frag)(F:Hp):Slot→HO→Prop
  |.ol ds,o=>∃vs,o=.lst vs∧bz K F ds vs
  |.ot ao,o=>∃ws,o=.dT ws∧bV K F ao ws
  |.ok ao,o=>∃ws,o=.dK ws∧bV K F ao ws
  |.pr ds _,o=>∃vs,o=.lst vs∧bz K F ds vs
  |.bx _ _ _ ao,o=>∃ws,o=.dT ws∧bV K F ao ws
  |.od _ ao,o=>∃ws,o=.dT ws∧bV K F ao ws
  |_,_=>False
theorem tF.QN{K:PySem.W.Frag}{sl:Slot}(h:tF K F sl o):Bt o=false:=by
  cases sl with
  |ol _=>obtain⟨_,rfl,_⟩:=h;rfl
  |ot _=>obtain⟨_,rfl,_⟩:=h;rfl
  |ok _=>obtain⟨_,rfl,_⟩:=h;rfl
  |pr _ _=>obtain⟨_,rfl,_⟩:=h;rfl
  |bx _ _ _ _=>obtain⟨_,rfl,_⟩:=h;rfl
  |od _ _=>obtain⟨_,rfl,_⟩:=h;rfl
  |_=>exact h.elim
theorem tF.own{K:PySem.W.Frag}{sl:Slot}(h:tF K F sl o):sl.own=true:=by
  cases sl with
  |ol _=>rfl
  |ot _=>rfl
  |ok _=>rfl
  |pr _ _=>rfl
  |bx _ _ _ _=>rfl
  |od _ _=>rfl
  |_=>exact h.elim
theorem tF.mono{K:PySem.W.Frag}(s:bH F F'){sl:Slot}(h:tF K F sl o):tF K F' sl o:=by
  cases sl with
  |ol _=>obtain⟨vs,e,q⟩:=h;exact⟨vs,e,bp s _ _ q⟩
  |ot _=>obtain⟨vs,e,q⟩:=h;exact⟨vs,e,q.mono s⟩
  |ok _=>obtain⟨vs,e,q⟩:=h;exact⟨vs,e,q.mono s⟩
  |pr _ _=>obtain⟨vs,e,q⟩:=h;exact⟨vs,e,bp s _ _ q⟩
  |bx _ _ _ _=>obtain⟨vs,e,q⟩:=h;exact⟨vs,e,q.mono s⟩
  |od _ _=>obtain⟨vs,e,q⟩:=h;exact⟨vs,e,q.mono s⟩
  |_=>exact h.elim
def ip(K:PySem.W.Frag)(F:Hp)(v:V)(C:Addr)(ws:List D)(p:Addr):Prop:=∃a dx l vs,v=.ref a∧F a=some (.ins C dx [("words",.ref l),("lying",.ref p)])∧eW K F l vs∧bz K F ws vs
theorem ip.mono{K:PySem.W.Frag}(s:bH F F'){ws:List D}(h:ip K F v C ws p):ip K F' v C ws p:=by obtain⟨a,dx,l,vs,e,h1,h2,h3⟩:=h;exact⟨a,dx,l,vs,e,s _ _ h1,s.seq h2,bp s _ _ h3⟩
def cO(K:PySem.W.Frag)(F:Hp)(v:V)(sl:Slot)(p:Addr):Prop :=
  match sl with
  |.pr _ rest=>∃a ws,v=.ref a∧F a=some (.tup (.ref p::ws))∧bz K F rest ws
  |.bx q C ws _=>p=q∧ip K F v C ws q
  |.od q _=>p=q∧v=.ref q
  |_=>v=.ref p
theorem cO.mono{K:PySem.W.Frag}(s:bH F F'){sl:Slot}(h:cO K F v sl p):cO K F' v sl p:=by
  cases sl with
  |pr ds rest=>obtain⟨a,ws,e,h1,h2⟩:=h;exact⟨a,ws,e,s _ _ h1,bp s _ _ h2⟩
  |bx q C ws ao=>exact⟨h.1,h.2.mono s⟩
  |_=>exact h
def Slot.kd:Slot→Nat
  |.pr _ _=>1
  |.bx _ _ _ _=>2
  |.od _ _=>3
  |_=>0
theorem Slot.Jg{s:Slot}(h:s.dir=true):s.kd=0:=by cases s<;>first|rfl|cases h
theorem cO.back{K:PySem.W.Frag}(s:bH F F'){sl wd:Slot}{q:Addr}(hd:sl.kd=wd.kd)(ho:sl.own=true)(BG:wd.own=true)(h:cO K F v sl p)(h':cO K F' v wd q):q=p:=by
  have dr:v=.ref p→wd.kd=0→q=p:=fun e1 hk=>by
    have e2:v=.ref q:=by cases wd<;>first|exact h'|cases hk|cases BG
    rw[e1] at e2;cases e2;rfl
  cases sl with
  |ol _=>exact dr h hd.symm
  |ot _=>exact dr h hd.symm
  |ok _=>exact dr h hd.symm
  |pr ds rest =>
   cases wd with
   |pr Bu Um=>obtain⟨a,ws,e,h1,_⟩:=h;obtain⟨a',zu,e',Ce,_⟩:=h';rw[e] at e';cases e';rw[s _ _ h1] at Ce;cases Ce;rfl
   |_=>first|cases hd|cases BG
  |bx q0 C0 Pa Xm =>
   cases wd with
   |bx q' C' zu iq=>obtain⟨rfl,a,dx,l,vs,e,h1,_⟩:=h;obtain⟨rfl,a',Xn,l',Z9,e',Ce,_⟩:=h';rw[e] at e';cases e';rw[s _ _ h1] at Ce;cases Ce;rfl
   |_=>first|cases hd|cases BG
  |od q0 Xm =>
   cases wd with
   |od q' iq=>obtain⟨rfl,e⟩:=h;obtain⟨rfl,e'⟩:=h';rw[e] at e';cases e';rfl
   |_=>first|cases hd|cases BG
  |_=>cases ho
def fC(K:PySem.W.Frag)(z:Zc)(F H:Hp)(v:V)(sl:Slot):Prop :=
  match sl with
  |.sh d=>Den K F d v
  |.br d=>Den K z.H₀ d v
  |.ft ao=>∃p ob ws,v=.ref p∧F p=some (.gL ob (.dT ws))∧bV K F ao ws
  |.fk ao=>∃p ob ws,v=.ref p∧F p=some (.gL ob (.dK ws))∧bV K F ao ws
  |.pn a d=>v=.ref a∧Den K z.H₀ d v
  |.bb C ws ao=>∃p ob wv,ip K z.H₀ v C ws p∧z.H₀ p=some (.gL ob (.dT wv))∧bV K z.H₀ ao wv
  |.bd ao=>∃p ob wv,v=.ref p∧z.H₀ p=some (.gL ob (.dT wv))∧bV K z.H₀ ao wv
  |.rw _ _=>False
  |sl=>∃p o,cO K F v sl p∧z.H₀ p=none∧F p=none∧H p=some o∧tF K F sl o
theorem bP{K:PySem.W.Frag}{z:Zc}{sl:Slot}(h:sl.own=true):fC K z F H v sl↔∃p o,cO K F v sl p∧z.H₀ p=none∧F p=none∧H p=some o∧tF K F sl o:=by
  cases sl with
  |ol _=>exact Iff.rfl
  |ot _=>exact Iff.rfl
  |ok _=>exact Iff.rfl
  |pr _ _=>exact Iff.rfl
  |bx _ _ _ _=>exact Iff.rfl
  |od _ _=>exact Iff.rfl
  |_=>cases h
theorem xg{K:PySem.W.Frag}{z:Zc}{sl:Slot}(h:sl.own=false)(s:bH F F')(q:fC K z F H v sl):fC K z F' H' v sl:=by
  cases sl with
  |sh d=>exact aL s d v q
  |br d=>exact q
  |ft ao=>obtain⟨p,ob,ws,e,h1,h2⟩:=q;exact⟨p,ob,ws,e,s _ _ h1,h2.mono s⟩
  |fk ao=>obtain⟨p,ob,ws,e,h1,h2⟩:=q;exact⟨p,ob,ws,e,s _ _ h1,h2.mono s⟩
  |pn a d=>exact q
  |bb _ _ _=>exact q
  |bd _=>exact q
  |rw _ _=>exact q
  |_=>cases h
theorem i7{K:PySem.W.Frag}(g:aG F H F' H')(hF:F p=none)(hH:H p=some o)(ht:Bt o=false):F' p=none:=by
  cases e:F' p with
  |none=>rfl
  |some u =>
   have e2:=g.base.sub p u e;rw[g.ent p o hH] at e2;cases e2;rcases g.new p _ e with q|q|q
   ·rw[hF] at q;cases q
   ·rw[hH] at q;cases q
   ·rw[ht] at q;cases q
theorem fC.grow{K:PySem.W.Frag}{z:Zc}(g:aG F H F' H'){sl:Slot}(h:fC K z F H v sl):fC K z F' H' v sl:=by
  cases ho:sl.own with
  |true=>rw[bP ho] at h⊢;obtain⟨p,o,e,h0,hF,hH,q⟩:=h;exact⟨p,o,e.mono g.cz,h0,i7 (K:=K) g hF hH q.QN,g.ent _ _ hH,q.mono g.cz⟩
  |false=>exact xg ho g.cz h
structure Rel (K:PySem.W.Frag) (z:Zc) (F H:Hp) (σ:St) (η:aY):Prop where
  mem:aG z.F₀ z.H₀ F H
  len:σ.length=η.length
  at_:∀(i:Nat) sl,η[i]?=some (some sl)→∃v,σ[i]?=some (some v)∧fC K z F H v sl
  apart:∀(i j:Nat) si sj vi vj p,i≠j→η[i]?=some (some si)→η[j]?=some (some sj)→si.own=true→sj.own=true→σ[i]?=some (some vi)→σ[j]?=some (some vj)→cO K F vi si p→¬ cO K F vj sj p
section
variable {K:PySem.W.Frag} {z:Zc} {F H F' H':Hp} {σ:St} {η:aY}
theorem Rel.base(r:Rel K z F H σ η):Base F H:=r.mem.base
theorem Rel.Xo(r:Rel K z F H σ η)(s:bH F F'){sl:Slot}(hi:η[i]?=some (some sl))(ho:sl.own=true)(hv:σ[i]?=some (some v))(h:cO K F' v sl p):cO K F v sl p∧∃o,H p=some o∧F p=none∧Bt o=false:=by obtain⟨v',xR,hs⟩:=r.at_ i sl hi;rw[hv] at xR;cases xR;obtain⟨p0,o,e,h0,hF,hH,q⟩:=(bP ho).mp hs;have e2:=e.back s rfl ho ho h;subst e2;exact⟨e,o,hH,hF,q.QN⟩
theorem Rel.grow(r:Rel K z F H σ η)(g:aG F H F' H'):Rel K z F' H' σ η :=
  ⟨r.mem.trans g,r.len,fun i sl e=>by obtain⟨v,h1,h2⟩:=r.at_ i sl e;exact⟨v,h1,h2.grow g⟩,fun i j si sj vi vj p pA ei ej oi oj hi hj h1 h2 =>
    r.apart i j si sj vi vj p pA ei ej oi oj hi hj (r.Xo g.cz ei oi hi h1).1 (r.Xo g.cz ej oj hj h2).1⟩
theorem Rel.idx(r:Rel K z F H σ η)(h:i<η.length):i<σ.length:=by have:=r.len;omega
theorem rS{α:Type}{l:List (Option α)}{x y:α}(h:(l.set i (some x))[j]?=some (some y)):(i=j∧i<l.length∧x=y)∨(i≠j∧l[j]?=some (some y)):=by
  by_cases e:i=j
  · subst e;by_cases hi:i<l.length
    ·rw[xD hi] at h;cases h;exact .inl ⟨rfl,hi,rfl⟩
    ·rw[BE (by rw[List.length_set];omega)] at h;cases h
  ·rw[v5 e] at h;exact .inr ⟨e,h⟩
theorem Rel.Jh(r:Rel K z F H σ η)(i:Nat){sl:Slot}(h:fC K z F H v sl)(hn:sl.own=true→∀p,cO K F v sl p→∀(j:Nat) s w,η[j]?=some (some s)→s.own=true→σ[j]?=some (some w)→¬ cO K F w s p):Rel K z F H (σ.set i (some v)) (η.set i (some sl)) where
  mem:=r.mem
  len:=by simp[r.len]
  at_:=fun j s e=>by
    rcases rS e with⟨rfl,hi,rfl⟩|⟨hj,e⟩
    ·exact⟨v,by rw[xD (r.idx hi)],h⟩
    ·rw[v5 hj];exact r.at_ j s e
  apart:=fun j k sj sk vj vk p Es ej ek oj ok hj hk h1 h2=>by
    rcases rS ej with⟨e1,hi,e2⟩|⟨nj,ej⟩
    · subst e1 e2;rcases rS ek with⟨e3,_,_⟩|⟨nk,ek⟩
      ·exact Es e3
      ·rw[xD (r.idx hi)] at hj;cases hj;rw[v5 nk] at hk;exact hn oj p h1 k sk vk ek ok hk h2
    · rw[v5 nj] at hj;rcases rS ek with⟨e1,hi,e2⟩|⟨nk,ek⟩
      ·subst e1 e2;rw[xD (r.idx hi)] at hk;cases hk;exact hn ok p h2 j sj vj ej oj hj h1
      ·rw[v5 nk] at hk;exact r.apart j k sj sk vj vk p Es ej ek oj ok hj hk h1 h2
theorem Rel.set(r:Rel K z F H σ η)(i:Nat){sl:Slot}(ho:sl.own=false)(h:fC K z F H v sl):Rel K z F H (σ.set i (some v)) (η.set i (some sl)) :=
  r.Jh i h (fun z=>by rw[ho] at z;cases z)
theorem Rel.QO(r:Rel K z F H σ η)(g:aG F H F' H')(hp:H p=none):∀(j:Nat) s w,η[j]?=some (some s)→s.own=true→σ[j]?=some (some w)→¬ cO K F' w s p:=fun j s w e o hw h=>by obtain⟨_,o',hH,_⟩:=r.Xo g.cz e o hw h;rw[hp] at hH;cases hH
theorem Rel.yd(r:Rel K z F H σ η)(g:aG F H F' H')(i:Nat){sl:Slot}(h:fC K z F' H' v sl)(ha:cO K F' v sl p)(hp:H p=none):Rel K z F' H' (σ.set i (some v)) (η.set i (some sl)) :=
  (r.grow g).Jh i h fun ho q hq=>by have e:q=p:=ha.back (bH.refl _) rfl ho ho hq;subst e;exact r.QO g hp
theorem Rel.writeAt(r:Rel K z F H σ η){sl wd:Slot}{o':HO}(hi:η[i]?=some (some sl))(ho:sl.own=true)(hd:sl.kd=wd.kd)(hv:σ[i]?=some (some v))(hp:cO K F v sl p)(zV:cO K F v wd p)(hq:tF K F wd o')(hl:nV o'):Rel K z F (upd H p o') σ (η.set i (some wd)):=by
  obtain⟨v',xR,hs⟩:=r.at_ i sl hi;rw[hv] at xR;cases xR;obtain⟨p',o,e,h0,hF,hH,_⟩:=(bP ho).mp hs;have e2:=e.back (bH.refl _) rfl ho ho hp;subst e2;have BG:wd.own=true:=hq.own;refine⟨r.mem.write h0 hF hl hq.QN,by simp[r.len],fun j s e=>?_,fun j k sj sk vj vk q Es ej ek oj ok hj hk h1 h2=>?_⟩
  · rcases rS e with⟨rfl,dY,rfl⟩|⟨nj,ej0⟩
    ·exact⟨_,hv,(bP BG).mpr ⟨p,o',zV,h0,hF,ax,hq⟩⟩
    · obtain⟨w,hw,HB⟩:=r.at_ j s ej0;refine⟨w,hw,?_⟩;cases Uo:s.own with
      |false=>exact xg Uo (bH.refl _) HB
      |true =>
       rw[bP Uo] at HB⊢;obtain⟨p2,o2,e2,a0,aF,aH,aq⟩:=HB;have lX:p2≠p:=fun z=>by subst z;exact r.apart i j sl s v w p2 nj hi ej0 ho Uo hv hw hp e2
       exact⟨p2,o2,e2,a0,aF,by rw[ai lX];exact aH,aq⟩
  · have key:∀(j:Nat) sj vj q,(η.set i (some wd))[j]?=some (some sj)→sj.own=true→σ[j]?=some (some vj)→cO K F vj sj q→∃s,η[j]?=some (some s)∧s.own=true∧cO K F vj s q:=fun j sj vj q ej oj hj Ed=>by
      rcases rS ej with⟨e1,dY,e2⟩|⟨nj,ej⟩
      ·subst e1 e2;rw[hv] at hj;cases hj;have e3:q=p:=hp.back (bH.refl _) hd ho BG Ed;subst e3;exact⟨sl,hi,ho,hp⟩
      ·exact⟨sj,ej,oj,Ed⟩
    obtain⟨s1,e1,o1,q1⟩:=key j sj vj q ej oj hj h1;obtain⟨s2,e2,o2,q2⟩:=key k sk vk q ek ok hk h2;exact r.apart j k s1 s2 vj vk q Es e1 e2 o1 o2 hj hk q1 q2
theorem p7{sl:Slot}(h:sl.dir=true):cO K F v sl p↔v=.ref p:=by cases sl<;>first|exact Iff.rfl|cases h
theorem Rel.write(r:Rel K z F H σ η){sl wd:Slot}{o':HO}(hi:η[i]?=some (some sl))(ho:sl.dir=true)(hp:σ[i]?=some (some (.ref p)))(hq:tF K F wd o')(hl:nV o')(Ht:wd.dir=true:=by rfl):Rel K z F (upd H p o') σ (η.set i (some wd)) :=
  r.writeAt hi (Slot.EA ho) ((Slot.Jg ho).trans (Slot.Jg Ht).symm) hp ((p7 ho).mpr rfl) ((p7 Ht).mpr rfl) hq hl
theorem Rel.ownAt(r:Rel K z F H σ η){sl:Slot}(hi:η[i]?=some (some sl))(ho:sl.dir=true):∃p o,σ[i]?=some (some (.ref p))∧z.H₀ p=none∧F p=none∧H p=some o∧tF K F sl o:=by obtain⟨v,hv,hs⟩:=r.at_ i sl hi;obtain⟨p,o,e,a⟩:=(bP (Slot.EA ho)).mp hs;have e2:=(p7 ho).mp e;subst e2;exact⟨p,o,hv,a⟩
def oK(nt:Nat)(fi:List Nat)(η:aY):aY:=List.replicate nt none++fi.map fun j=>(η[j]?).getD none
theorem p8{α:Type}{nt:Nat}{η:List (Option α)}{s:α}(h:(List.replicate nt none++fi.map fun j=>(η[j]?).getD none)[i]?=some (some s)):∃j,nt≤i∧fi[i-nt]?=some j∧η[j]?=some (some s):=by
  by_cases hi:i<nt
  ·rw[xC (by simpa using hi)] at h;rw[List.getElem?_replicate] at h;split at h<;>cases h
  · rw[xB (by simp;omega),List.length_replicate,eS] at h;cases e:fi[i-nt]? with
    |none=>rw[e] at h;cases h
    |some j =>
     rw[e] at h;refine⟨j,by omega,rfl,?_⟩;have h':(η[j]?).getD none=some s:=jG h;cases q:η[j]? with
     |none=>rw[q] at h';cases h'
     |some o=>rw[q] at h';rw[show o=some s from h']
theorem QP{α:Type}{nt:Nat}{η:List (Option α)}{s:α}(hi:nt≤i)(hj:fi[i-nt]?=some j)(h:η[j]?=some (some s)):(List.replicate nt none++fi.map fun j=>(η[j]?).getD none)[i]?=some (some s):=by rw[xB (by simpa using hi),List.length_replicate,eS,hj];show some ((η[j]?).getD none)=_;rw[h];rfl
theorem Rel.block(r:Rel K z F H σ η)(nt:Nat)(hf:fi.Nodup):Rel K z F H (mC nt fi σ) (oK nt fi η) where
  mem:=r.mem
  len:=by simp[mC,oK]
  at_:=fun i sl e=>by obtain⟨j,hi,hj,h⟩:=p8 e;obtain⟨v,hv,hs⟩:=r.at_ j sl h;exact⟨v,QP hi hj hv,hs⟩
  apart:=fun i j si sj vi vj p pA ei ej oi oj h1 h2 q1 q2=>by obtain⟨a,ha,O7,ha2⟩:=p8 ei;obtain⟨b,hb,Bs,hb2⟩:=p8 ej;obtain⟨a1,ha1,Uq,Ce⟩:=p8 h1;obtain⟨b1,hb1,Ur,Sx⟩:=p8 h2;rw[O7] at Uq;cases Uq;rw[Bs] at Ur;cases Ur;refine r.apart a b si sj vi vj p (fun e=>pA ?_) ha2 hb2 oi oj Ce Sx q1 q2;subst e;have q:=(List.getElem?_inj (kJ.mp O7).1 hf).mp (O7.trans Bs.symm);omega
end
inductive Out where
  |nx (η:aY)|rt (s:Slot)|bk (η:aY)|ct (η:aY)
abbrev EF:=aY→Option D
abbrev LF:=aY→Option (List D)
abbrev TF:=aY→Option Bool
abbrev SF:=aY→Option Out
abbrev BF:=D→aY→Option aY
def vE(K:PySem.W.Frag)(z:Zc)(f:EF):TE:=fun σ H Q=>∃η F d,Rel K z F H σ η∧f η=some d∧∀v H' F',aG F H F' H'→Den K F' d v→Q v H'
def vB(K:PySem.W.Frag)(z:Zc)(f:EF):TE:=fun σ H Q=>∃η F d,Rel K z F H σ η∧f η=some d∧∀v H' F',aG F H F' H'→Den K H' d v→Q v H'
def vO(K:PySem.W.Frag)(z:Zc)(f:LF):TE:=fun σ H Q=>∃η F ds,Rel K z F H σ η∧f η=some ds∧∀p vs H' F',aG F H F' H'→H p=none→F' p=none→H' p=some (.lst vs)→bz K F' ds vs→Q (.ref p) H'
def vT(K:PySem.W.Frag)(z:Zc)(f:TF):TT:=fun σ H Q=>∃η F b,Rel K z F H σ η∧f η=some b∧∀H' F',aG F H F' H'→Q b H'
def kP(K:PySem.W.Frag)(F H:Hp):List Bool→List D→List V→Prop
  |[],[],[]=>True
  |m::ms,d::ds,v::vs=>(match m with|true=>Den K F d v|false=>Den K H d v)∧kP K F H ms ds vs
  |_,_,_=>False
def vM(K:PySem.W.Frag)(z:Zc)(ms:List Bool)(f:LF):TA:=fun σ H Q=>∃η F ds,Rel K z F H σ η∧f η=some ds∧∀vs H' F',aG F H F' H'→kP K F' H' ms ds vs→Q vs H'
def EB(K:PySem.W.Frag)(F H:Hp)(r:Slot)(Q:VK):Prop :=
  match r with
  |.sh d=>∀v H' F',aG F H F' H'→Den K F' d v→Q v H'
  |.ol ds=>∀p vs H' F',aG F H F' H'→H p=none→F' p=none→H' p=some (.lst vs)→bz K F' ds vs→Q (.ref p) H'
  |.pr ds rest=>∀a p vs ws H' F',aG F H F' H'→H p=none→F' p=none→H' p=some (.lst vs)→bz K F' ds vs→F' a=some (.tup (.ref p::ws))→bz K F' rest ws→Q (.ref a) H'
  |.ot ao=>∀p ws H' F',aG F H F' H'→H p=none→F' p=none→H' p=some (.dT ws)→bV K F' ao ws→Q (.ref p) H'
  |.rw d l=>∀v H' F',aG F H F' H'→Den K F' d v→(∀q∈l,H q.1=none∧F' q.1=none∧∃ws,H' q.1=some (.dT ws)∧bV K F' q.2 ws)→Q v H'
  |_=>False
def MG(K:PySem.W.Frag)(z:Zc)(r:Slot)(Q:VK):Prop :=
  match r with
  |.pn C _=>∀H' F',aG z.F₀ z.H₀ F' H'→z.E C H'
  |r=>EB K z.F₀ z.H₀ r Q
theorem MG.of{K:PySem.W.Frag}{z:Zc}{r:Slot}{Q:VK}(h:EB K z.F₀ z.H₀ r Q):MG K z r Q:=by cases r<;>first|exact h|exact False.elim h
def ye(K:PySem.W.Frag)(z:Zc)(F:Hp)(o:Out)(D:Ends):Prop :=
  match o with
  |.nx η'=>∀σ' H' F',Rel K z F' H' σ' η'→bH F F'→D.nx σ' H'
  |.bk η'=>∀σ' H' F',Rel K z F' H' σ' η'→bH F F'→D.bk σ' H'
  |.ct η'=>∀σ' H' F',Rel K z F' H' σ' η'→bH F F'→D.ct σ' H'
  |.rt r=>MG K z r D.rt
def vS(K:PySem.W.Frag)(z:Zc)(g:SF):TS:=fun D σ H=>∃η F o,Rel K z F H σ η∧g η=some o∧ye K z F o D
def DE(X:Cx)(z:Zc)(e:Expr)(f:EF):Prop:=PE X e (vE X.K z f)
def DB(X:Cx)(z:Zc)(e:Expr)(f:EF):Prop:=PE X e (vB X.K z f)
def DO(X:Cx)(z:Zc)(e:Expr)(f:LF):Prop:=PE X e (vO X.K z f)
def DT(X:Cx)(z:Zc)(e:Expr)(f:TF):Prop:=PT X e (vT X.K z f)
def DW(X:Cx)(z:Zc)(e:Expr)(f:TF):Prop:=PW X e (vT X.K z f)
def DM(X:Cx)(z:Zc)(es:List Expr)(ms:List Bool)(f:LF):Prop:=PA X es (vM X.K z ms f)
def DS(X:Cx)(z:Zc)(st:Stmt)(g:SF):Prop:=PS X st (vS X.K z g)
def Ji(X:Cx)(z:Zc)(sts:List Stmt)(g:SF):Prop:=xM X sts (vS X.K z g)
theorem PE.weak{t t':TE}(h:PE X e t)(k:∀σ H Q,t' σ H Q→t σ H Q):PE X e t':=fun pins s σ H Q I q=>h pins s σ H Q I (k σ H Q q)
theorem PT.weak{t t':TT}(h:PT X e t)(k:∀σ H Q,t' σ H Q→t σ H Q):PT X e t':=fun pins s σ H Q I q=>h pins s σ H Q I (k σ H Q q)
theorem PW.weak{t t':TT}(h:PW X e t)(k:∀σ H Q,t' σ H Q→t σ H Q):PW X e t':=fun wh pins s σ H Q I q=>h wh pins s σ H Q I (k σ H Q q)
theorem PA.weak{e:List Expr}{t t':TA}(h:PA X e t)(k:∀σ H Q,t' σ H Q→t σ H Q):PA X e t':=fun pos pins s σ H Q I q=>h pos pins s σ H Q I (k σ H Q q)
theorem PS.weak{e:Stmt}{t t':TS}(h:PS X e t)(k:∀D σ H,t' D σ H→t D σ H):PS X e t':=fun pins s σ H D I q=>h pins s σ H D I (k D σ H q)
theorem xM.weak{e:List Stmt}{t t':TS}(h:xM X e t)(k:∀D σ H,t' D σ H→t D σ H):xM X e t':=fun pins s σ H D I q=>h pins s σ H D I (k D σ H q)
section
variable {X:Cx} {z:Zc} {e a b:Expr} {f fa fb:EF} {pos:Pos}
theorem DE.bo(h:DE X z e f):DB X z e f:=PE.weak h fun σ H Q ⟨η,F,d,r,e,k⟩=>⟨η,F,d,r,e,fun v H' F' g q=>k v H' F' g (aL g.base.sub d v q)⟩
def eL(f:LF):EF:=fun η=>(f η).map D.lst
theorem DO.sh{f:LF}(h:DO X z e f):DE X z e (eL f):=PE.weak h fun σ H Q ⟨η,F,d,r,e,k⟩=>by
  unfold eL at e;cases q:f η with
  |none=>rw[q] at e;cases e
  |some ds=>rw[q] at e;cases e;refine⟨η,F,ds,r,q,fun p vs H' F' g hp hF hH hd=>?_⟩;have hs:bH F' (upd F' p (.lst vs)):=fV hF _;exact k _ _ _ (g.share g.base hH hp) (aK.mpr ⟨p,vs,rfl,eW.of ax,bp hs _ _ hd⟩)
theorem DO.bo{f:LF}(h:DO X z e f):DB X z e (eL f):=h.sh.bo
def eI(f:EF):EF:=fun η=>(f η).bind fun d=>if d.nP=true then some d else none
theorem DB.im(h:DB X z e f):DE X z e (eI f):=PE.weak h fun σ H Q ⟨η,F,d,r,e,k⟩=>by
  unfold eI at e;cases q:f η with
  |none=>rw[q] at e;cases e
  |some d' =>
   rw[q] at e;have e:(if d'.nP=true then some d' else none)=some d:=e;by_cases hi:d'.nP=true
   ·rw[ay hi] at e;cases e;exact⟨η,F,d,r,q,fun v H' F' g hd=>k v H' F' g (ng g.base.tup d v hi hd)⟩
   ·rw[az hi] at e;cases e
def eV(i:Nat):EF:=fun η=>match η[i]? with
  |some (some (.sh d))=>some d
  |some (some (.br d))=>if d.nP=true then some d else none
  |_=>none
def aB(i:Nat):EF:=fun η=>match η[i]? with
  |some (some (.sh d))=>some d
  |some (some (.br d))=>some d
  |some (some (.ol ds))=>some (.lst ds)
  |some (some (.pr ds rest))=>some (.tup (.lst ds::rest))
  |some (some (.pn _ d))=>some d
  |_=>none
theorem aA(i:Nat)(hN:X.N[i]?=some x:=by rfl)(hv:pL X.env.scope x:=by first|exact Or.inl rfl|exact Or.inr (Or.inl rfl)|exact Or.inr (Or.inr rfl))(hd:(x==("__debug__":Str))=false:=by decide)(dR:(x==("__classdict__":Str))=false:=by decide):DB X z (.Name x pos) (aB i):=PE.weak (cM hN hv hd dR) fun σ H Q ⟨η,F,d,r,e,k⟩=>by
  unfold aB at e;split at e
  ·rename_i d' h;cases e;obtain⟨v,hv,hs⟩:=r.at_ i _ h;exact⟨v,hv,k v H F (aG.refl r.base) (aL r.base.sub _ _ hs)⟩
  ·rename_i d' h;cases e;obtain⟨v,hv,hs⟩:=r.at_ i _ h;exact⟨v,hv,k v H F (aG.refl r.base) (aL r.mem.ent _ _ hs)⟩
  ·rename_i ds h;cases e;obtain⟨p,o,hv,h0,hF,hH,vs,rfl,hq⟩:=r.ownAt h rfl;exact⟨_,hv,k _ H F (aG.refl r.base) (aK.mpr ⟨p,vs,rfl,eW.of hH,bp r.base.sub _ _ hq⟩)⟩
  ·rename_i ds rest h;cases e;obtain⟨v,hv,p,o,⟨a,ws,rfl,ha,hr⟩,h0,hF,hH,vs,rfl,hq⟩:=r.at_ i _ h;refine⟨_,hv,k _ H F (aG.refl r.base) (aI.mpr ⟨a,_,rfl,r.base.sub _ _ ha,av.mpr ⟨_,_,rfl,aK.mpr ⟨p,vs,rfl,eW.of hH,bp r.base.sub _ _ hq⟩,bp r.base.sub _ _ hr⟩⟩)⟩
  ·rename_i a d' h;cases e;obtain⟨v,hv,_,hs⟩:=r.at_ i _ h;exact⟨v,hv,k v H F (aG.refl r.base) (aL r.mem.ent _ _ hs)⟩
  ·cases e
theorem bX(i:Nat)(hN:X.N[i]?=some x:=by rfl)(hv:pL X.env.scope x:=by first|exact Or.inl rfl|exact Or.inr (Or.inl rfl)|exact Or.inr (Or.inr rfl))(hd:(x==("__debug__":Str))=false:=by decide)(dR:(x==("__classdict__":Str))=false:=by decide):DE X z (.Name x pos) (eV i):=PE.weak (cM hN hv hd dR) fun σ H Q ⟨η,F,d,r,e,k⟩=>by
  unfold eV at e;split at e
  ·rename_i d' h;cases e;obtain⟨v,hv,hs⟩:=r.at_ i _ h;exact⟨v,hv,k v H F (aG.refl r.base) hs⟩
  · rename_i d' h;by_cases hi:d'.nP=true
    ·rw[ay hi] at e;cases e;obtain⟨v,hv,hs⟩:=r.at_ i _ h;exact⟨v,hv,k v H F (aG.refl r.base) (ng r.base.tup _ _ hi (aL r.mem.ent _ _ hs))⟩
    ·rw[az hi] at e;cases e
  ·cases e
def eC(d:D):EF:=fun _=>some d
theorem ak{i j pos}:DE X z (.Constant (.int i) j pos) (eC (.int i)):=PE.weak gT fun σ H Q ⟨η,F,d,r,e,k⟩=>by cases e;exact k _ H F (aG.refl r.base) (aD.mpr rfl)
theorem sS{i j pos}:DE X z (.Constant (.bool i) j pos) (eC (.bl i)):=PE.weak zD fun σ H Q ⟨η,F,d,r,e,k⟩=>by cases e;exact k _ H F (aG.refl r.base) (bu.mpr rfl)
theorem Jj{j pos}:DE X z (.Constant .none j pos) (eC .non):=PE.weak HL fun σ H Q ⟨η,F,d,r,e,k⟩=>by cases e;exact k _ H F (aG.refl r.base) (bI.mpr rfl)
theorem rT{x j pos}:DE X z (.Constant (.str x) j pos) (eC (.str x)):=PE.weak P1 fun σ H Q ⟨η,F,d,r,e,k⟩=>by cases e;exact k _ H F (aG.refl r.base) (aQ.mpr rfl)
def ae(g:D→D→Option D)(fa fb:EF):EF:=fun η=>(fa η).bind fun x=>(fb η).bind fun y=>g x y
theorem i9{fa fb:EF}{η:aY}{d:D}(h:ae g fa fb η=some d):∃x y,fa η=some x∧fb η=some y∧g x y=some d:=by unfold ae at h;obtain⟨x,h1,h⟩:=cR.mp h;obtain⟨y,h2,h⟩:=cR.mp h;exact⟨x,y,h1,h2,h⟩
def EC(K:PySem.W.Frag)(g:D→D→Option D)(r:R2):Prop:=∀(F H:Hp) (x y d:D) (v u:V) (Q:VK),Base F H→g x y=some d→Den K H x v→Den K H y u→(∀w,Den K F d w→Q w H)→r v u H Q
theorem p9{K:PySem.W.Frag}(hg:EC K g r):∀σ H Q,vE K z (ae g fa fb) σ H Q→D9 r (vB K z fa) (vB K z fb) σ H Q:=fun σ H Q ⟨η,F,d,rl,e,k⟩=>by obtain⟨x,y,h1,h2,h3⟩:=i9 e;refine⟨η,F,x,rl,h1,fun v H1 F1 g1 q1=>⟨η,F1,y,rl.grow g1,h2,fun u H2 F2 g2 q2=>?_⟩⟩;exact hg F2 H2 x y d v u Q g2.base h3 (aL g2.ent _ _ q1) q2 fun w q=>k w H2 F2 (g1.trans g2) q
theorem uy{op:Operator}(ho:nR X (binaryOp op) r)(hg:EC X.K g r)(ha:DB X z a fa)(hb:DB X z b fb):DE X z (.BinOp a op b pos) (ae g fa fb):=PE.weak (O0 ho ha hb) (p9 hg)
theorem yf(ho:nR X (compareOp op) r)(hg:EC X.K g r)(ha:DB X z a fa)(hb:DB X z b fb)(hm:behindInMarks op b=false):DE X z (.Compare a [op] [b] pos) (ae g fa fb):=PE.weak (Eb ho ha hb hm) (p9 hg)
def bF(f:EF):TF:=fun η=>(f η).bind fun d=>match d with|.bl b=>some b|_=>none
theorem qc{f:EF}{η:aY}{b:Bool}(h:bF f η=some b):f η=some (.bl b):=by
  unfold bF at h;obtain⟨d,h1,h2⟩:=cR.mp h;cases d with
  |bl c=>cases h2;exact h1
  |_=>cases h2
theorem fY(h:DE X z e f)(he:∀whole,isTrue e X.env whole=(do let v ←whole;standAt e.pos;holding [v] (truthy v)):=by intro _;rfl):DT X z e (bF f):=PT.weak (HN h he) fun σ H Q ⟨η,F,b,r,e,k⟩ =>
  ⟨η,F,_,r,qc e,fun v H' F' g q=>⟨b,bu.mp q,k H' F' g⟩⟩
theorem oM(ho:nR X (compareOp op) r)(hg:EC X.K g r)(ha:DB X z a fa)(hb:DB X z b fb)(hm:behindInMarks op b=false):DT X z (.Compare a [op] [b] pos) (bF (ae g fa fb)) :=
  PT.weak (Ec ho ha hb hm) fun σ H Q ⟨η,F,c,r,e,k⟩=>p9 hg σ H _ ⟨η,F,_,r,qc e,fun v H' F' g q=>⟨c,bu.mp q,k H' F' g⟩⟩
variable {ta tb:TF} {rest:List Expr}
def jj(t:TF):TF:=fun η=>(t η).map (!·)
def eX(t u:TF):TF:=fun η=>(t η).bind fun c=>if c=true then u η else some false
def iP(t u:TF):TF:=fun η=>(t η).bind fun c=>if c=true then some true else u η
theorem rV(ha:DT X z a ta):DT X z (.UnaryOp .Not a pos) (jj ta):=PT.weak (HP ha) fun σ H Q ⟨η,F,c,r,e,k⟩=>by unfold jj at e;obtain⟨b,h1,h2⟩:=iB.mp e;subst h2;exact⟨η,F,b,r,h1,k⟩
theorem Jk{K:PySem.W.Frag}:∀σ H Q,vT K z (eX ta tb) σ H Q→Td (vT K z ta) (vT K z tb) σ H Q:=fun σ H Q ⟨η,F,c,r,e,k⟩=>by
  unfold eX at e;obtain⟨b,h1,h2⟩:=cR.mp e;refine⟨η,F,b,r,h1,fun H1 F1 g1=>?_⟩;cases b with
  |true=>exact⟨η,F1,c,r.grow g1,h2,fun H2 F2 g2=>k H2 F2 (g1.trans g2)⟩
  |false=>have e2:some false=some c:=h2;cases e2;exact k H1 F1 g1
theorem MH{K:PySem.W.Frag}:∀σ H Q,vT K z (iP ta tb) σ H Q→ZL (vT K z ta) (vT K z tb) σ H Q:=fun σ H Q ⟨η,F,c,r,e,k⟩=>by
  unfold iP at e;obtain⟨b,h1,h2⟩:=cR.mp e;refine⟨η,F,b,r,h1,fun H1 F1 g1=>?_⟩;cases b with
  |false=>exact⟨η,F1,c,r.grow g1,h2,fun H2 F2 g2=>k H2 F2 (g1.trans g2)⟩
  |true=>have e2:some true=some c:=h2;cases e2;exact k H1 F1 g1
theorem qd(ha:DT X z a ta):DW X z (.BoolOp .And [a] pos) ta:=pw_and1 ha
theorem mG(ha:DT X z a ta):DW X z (.BoolOp .Or [a] pos) ta:=pw_or1 ha
theorem rW(ha:DT X z a ta)(hb:DW X z (.BoolOp .And (b::rest) pos) tb):DW X z (.BoolOp .And (a::b::rest) pos) (eX ta tb):=PW.weak (pw_and ha hb) Jk
theorem nW(ha:DT X z a ta)(hb:DW X z (.BoolOp .Or (b::rest) pos) tb):DW X z (.BoolOp .Or (a::b::rest) pos) (iP ta tb):=PW.weak (pw_or ha hb) MH
theorem DW.t(h:DW X z e ta):DT X z e ta:=PW.pt h
def yg(fa fb:EF):EF:=fun η=>(bF fa η).bind fun c=>if c=true then fb η else some (.bl false)
def Jl(fa:EF):EF:=fun η=>(bF fa η).map fun c=>.bl (!c)
theorem uz{op}(h:DE X z a fa):DE X z (.BoolOp op [a] pos) fa:=HR h
theorem rX(ha:DE X z a fa)(hb:DE X z (.BoolOp .And (b::rest) pos) fb):DE X z (.BoolOp .And (a::b::rest) pos) (yg fa fb):=PE.weak (HS ha hb) fun σ H Q ⟨η,F,d,r,e,k⟩=>by
  unfold yg at e;obtain⟨c,h1,h2⟩:=cR.mp e;refine⟨η,F,_,r,qc h1,fun v H1 F1 g1 q=>⟨c,bu.mp q,?_⟩⟩;cases c with
  |true=>exact⟨η,F1,d,r.grow g1,h2,fun v H2 F2 g2 q2=>k v H2 F2 (g1.trans g2) q2⟩
  |false=>have e2:some (D.bl false)=some d:=h2;cases e2;exact k _ H1 F1 g1 (bu.mpr rfl)
theorem Jm(ha:DE X z a fa):DE X z (.UnaryOp .Not a pos) (Jl fa):=PE.weak (P4 ha) fun σ H Q ⟨η,F,d,r,e,k⟩=>by unfold Jl at e;obtain⟨c,h1,h2⟩:=iB.mp e;subst h2;exact⟨η,F,_,r,qc h1,fun v H1 F1 g1 q=>⟨c,bu.mp q,k _ H1 F1 g1 (bu.mpr rfl)⟩⟩
variable {es:List Expr} {ms:List Bool} {fs:LF}
def aM:LF:=fun _=>some []
def ag(f:EF)(fs:LF):LF:=fun η=>(f η).bind fun d=>(fs η).map (d::·)
theorem uA{f:EF}{fs:LF}{η:aY}{l:List D}(h:ag f fs η=some l):∃d r,f η=some d∧fs η=some r∧l=d::r:=by unfold ag at h;obtain⟨d,h1,h⟩:=cR.mp h;obtain⟨r,h2,h⟩:=iB.mp h;exact⟨d,r,h1,h2,h.symm⟩
theorem aN:DM X z [] [] aM:=PA.weak cN fun σ H Q ⟨η,F,ds,r,e,k⟩=>by cases e;exact k [] H F (aG.refl r.base) True.intro
theorem bw(ha:DE X z e f)(hr:DM X z es ms fs)(hs:starEach (e::es) X.env=(false,eval e X.env)::starEach es X.env:=by rfl):DM X z (e::es) (true::ms) (ag f fs):=PA.weak (aW ha hr hs) fun σ H Q ⟨η,F,ds,r,e,k⟩=>by obtain⟨d,l,h1,h2,rfl⟩:=uA e;refine⟨η,F,d,r,h1,fun v H1 F1 g1 q1=>⟨η,F1,l,r.grow g1,h2,fun vs H2 F2 g2 q2=>?_⟩⟩;exact k _ H2 F2 (g1.trans g2) ⟨aL g2.cz _ _ q1,q2⟩
theorem cC(ha:DB X z e f)(hr:DM X z es ms fs)(hs:starEach (e::es) X.env=(false,eval e X.env)::starEach es X.env:=by rfl):DM X z (e::es) (false::ms) (ag f fs):=PA.weak (aW ha hr hs) fun σ H Q ⟨η,F,ds,r,e,k⟩=>by obtain⟨d,l,h1,h2,rfl⟩:=uA e;refine⟨η,F,d,r,h1,fun v H1 F1 g1 q1=>⟨η,F1,l,r.grow g1,h2,fun vs H2 F2 g2 q2=>?_⟩⟩;exact k _ H2 F2 (g1.trans g2) ⟨aL g2.ent _ _ q1,q2⟩
theorem rY{K:PySem.W.Frag}{F H:Hp}:∀{n:Nat} {ds:List D} {vs:List V},kP K F H (List.replicate n true) ds vs→bz K F ds vs
  |0,[],[],_=>aO.mpr rfl
  |0,_::_,_,h=>h.elim
  |0,[],_::_,h=>h.elim
  |n+1,d::ds,v::vs,h=>av.mpr ⟨v,vs,rfl,h.1,rY h.2⟩
  |n+1,[],_,h=>h.elim
  |n+1,_::_,[],h=>h.elim
theorem uB{K:PySem.W.Frag}{F H:Hp}(s:bH F H):∀{ms:List Bool} {ds:List D} {vs:List V},kP K F H ms ds vs→bz K H ds vs
  |[],[],[],_=>aO.mpr rfl
  |[],_::_,_,h=>h.elim
  |[],[],_::_,h=>h.elim
  |m :: ms,d::ds,v::vs,h=>av.mpr ⟨v,vs,rfl,by
     cases m with
     |true=>exact aL s _ _ h.1
     |false=>exact h.1,uB s h.2⟩
  |_::_,[],_,h=>h.elim
  |_::_,_::_,[],h=>h.elim
theorem kQ{K:PySem.W.Frag}{F H:Hp}:∀{ms:List Bool} {ds:List D} {vs:List V},kP K F H ms ds vs→ms.length=vs.length∧ms.length=ds.length
  |[],[],[],_=>⟨rfl,rfl⟩
  |[],_::_,_,h=>h.elim
  |[],[],_::_,h=>h.elim
  |m::ms,d::ds,v::vs,h=>by have:=kQ h.2;simp[this.1,this.2];omega
  |_::_,[],_,h=>h.elim
  |_::_,_::_,[],h=>h.elim
def oN(fs:LF):EF:=fun η=>(fs η).bind fun ds=>if ds.length≤1000 then some (.tup ds) else none
theorem uC{x1}(h:DM X z es (List.replicate n true) fs):DE X z (.Tuple es x1 pos) (oN fs):=PE.weak (Qk h) fun σ H Q ⟨η,F,d,r,e,k⟩=>by
  unfold oN at e;obtain⟨ds,h1,h2⟩:=cR.mp e;by_cases hl:ds.length≤1000
  · rw[ay hl] at h2;cases h2;refine⟨η,F,ds,r,h1,fun vs H' F' g q=>?_⟩;have q:=rY q;have hz:vs.length≤sizeLine:=by rw[←aJ q];exact Ew hl
    refine⟨hz,fun p hp=>?_⟩;have g2:=aG.put g.base hp (.tup vs) hz;exact k _ _ _ (g.trans g2) (aI.mpr ⟨p,vs,rfl,ax,bp g2.cz _ _ q⟩)
  ·rw[az hl] at h2;cases h2
def uD(fs:LF):LF:=fun η=>(fs η).bind fun ds=>if ds.length≤1000 then some ds else none
theorem oO(h:DM X z es (List.replicate n true) fs):DO X z (.List es pos) (uD fs):=PE.weak (xT h) fun σ H Q ⟨η,F,d,r,e,k⟩=>by
  unfold uD at e;obtain⟨ds,h1,h2⟩:=cR.mp e;by_cases hl:ds.length≤1000
  · rw[ay hl] at h2;cases h2;refine⟨η,F,_,r,h1,fun vs H' F' g q=>?_⟩;have q:=rY q;have hz:vs.length≤sizeLine:=by rw[←aJ q];exact Ew hl
    refine⟨hz,fun p hp=>?_⟩;have g2:=aG.own g.base hp (.lst vs) hz rfl;exact k p vs _ F' (g.trans g2) (g.ent.free hp) (g.base.sub.free hp) ax q
  ·rw[az hl] at h2;cases h2
end
def gG(K:PySem.W.Frag)(ms:List Bool)(Fn:List D→Option Slot):Sp:=fun vs H Q _=>∃F ds r,Base F H∧kP K F H ms ds vs∧Fn ds=some r∧EB K F H r Q
def iG(n:Nat)(ms:List Bool)(ds:List D):aY:=(List.zipWith (fun m d=>some (match m with|true=>Slot.sh d|false=>Slot.br d)) ms ds)++List.replicate (n-ds.length) none
def pD(n:Nat)(ms:List Bool)(g:SF):List D→Option Slot:=fun ds=>match g (iG n ms ds) with
  |some (.rt r)=>some r
  |some (.nx _)=>some (.sh .non)
  |_=>none
section
variable {K:PySem.W.Frag} {F H:Hp}
theorem ED:∀{ms:List Bool} {ds:List D} {vs:List V},kP K F H ms ds vs→∀(i:Nat) sl,(List.zipWith (fun m d=>some (match m with|true=>Slot.sh d|false=>Slot.br d)) ms ds)[i]?=some (some sl)→sl.own=false∧∃v,(vs.map some)[i]?=some (some v)∧fC K ⟨F,H,Ez⟩ F H v sl
  |[],[],[],_,i,sl,e=>by simp at e
  |[],_::_,_,h,_,_,_=>h.elim
  |[],[],_::_,h,_,_,_=>h.elim
  |_::_,[],_,h,_,_,_=>h.elim
  |_::_,_::_,[],h,_,_,_=>h.elim
  |m::ms,d::ds,v::vs,h,0,sl,e=>by
   simp at e;subst e;cases m with
   |true=>exact⟨rfl,v,rfl,h.1⟩
   |false=>exact⟨rfl,v,rfl,h.1⟩
  |m::ms,d::ds,v::vs,h,i+1,sl,e=>by obtain⟨h1,w,h2,h3⟩:=ED h.2 i sl (by simpa using e);exact⟨h1,w,by simpa using h2,h3⟩
theorem Gz{Ez:Addr→Hp→Prop}(b:Base F H)(h:kP K F H ms ds vs):Rel K ⟨F,H,Ez⟩ F H (L2.start N vs) (iG N.length ms ds):=by
  obtain⟨l1,l2⟩:=kQ h;have lz:(List.zipWith (fun m d=>some (match m with|true=>Slot.sh d|false=>Slot.br d)) ms ds).length=ds.length:=by rw[List.length_zipWith];omega
  have key:∀(i:Nat) sl,(iG N.length ms ds)[i]?=some (some sl)→sl.own=false∧∃v,(L2.start N vs)[i]?=some (some v)∧fC K ⟨F,H,Ez⟩ F H v sl:=fun i sl e=>by
    unfold iG at e;by_cases hi:i<ds.length
    ·rw[xC (by rw[lz];exact hi)] at e;obtain⟨h1,v,h2,h3⟩:=ED h i sl e;refine⟨h1,v,?_,h3⟩;unfold L2.start;rw[xC (by rw[fG];omega)];exact h2
    ·rw[xB (by rw[lz];omega),List.getElem?_replicate] at e;split at e<;>cases e
  refine⟨aG.refl b,?_,fun i sl e=>(key i sl e).2,fun i j si sj vi vj p _ e _ o _ _ _ _ _=>by rw[(key i si e).1] at o;cases o⟩;unfold L2.start iG;rw[lZ,lZ,lz,fG,List.length_replicate,List.length_replicate];omega
end
theorem dz{K:PySem.W.Frag}{base:Heap}{st:Stmt}{f:Addr}{ps:dC}{g:SF}(F:lW K x qual st f fd)(S:bq N ps (aj st))(nX:ms.length=ps.length)(hb:∀(di:Value) (A:Around) (outer:List Env) (s:Shared) (H:Hp) (E:XK) (z:Zc),cU k (A.deeper (envOfC qual (aj st) s.heap.objs.size f di))→Ji (wg mz P w K mg base N qual (aj st) f di A outer s H E).LW z (bA st) g):cD P w K mg base mz (k+1) f fd ps (gG K ms (pD N.length ms g)):=by
  refine F.ok S (fun vs H Q E h=>?_) (fun di A outer s H vs Q E hr h=>?_)
  ·obtain⟨F,ds,r,_,a,_⟩:=h;rw[←nX,(kQ a).1]
  · obtain⟨F,ds,r,b,a,e,q⟩:=h;refine⟨_,hb di A outer s H E ⟨F,H,fun _ _=>False⟩ hr,?_⟩;have rl:Rel K ⟨F,H,fun _ _=>False⟩ F H (L2.start N vs) (iG N.length ms ds):=Gz b a;unfold pD at e;cases o:g (iG N.length ms ds) with
    |none=>rw[o] at e;cases e
    |some o' =>
     rw[o] at e;refine⟨_,F,o',rl,o,?_⟩;cases o' with
     |rt r'=>cases e;exact MG.of (z:=⟨F,H,fun _ _=>False⟩) q
     |nx η'=>cases e;exact fun σ' H' F' r' _=>q .non H' F' r'.mem (bI.mpr rfl)
     |bk _=>cases e
     |ct _=>cases e
section
variable {X:Cx} {z:Zc} {e a b:Expr} {f fa fb:EF} {pos p:Pos} {es:List Expr} {ms:List Bool} {fs:LF}
def bD(Fn:List D→Option Slot)(fs:LF):EF:=fun η=>(fs η).bind fun ds=>(Fn ds).bind fun r=>match r with|.sh d=>some d|.ol ds=>some (.lst ds)|.pr ds rest=>some (.tup (.lst ds::rest))|_=>none
def EE(Fn:List D→Option Slot)(fs:LF):LF:=fun η=>(fs η).bind fun ds=>(Fn ds).bind fun r=>match r with|.ol ds=>some ds|_=>none
theorem cg{ps:dC}{Fn:List D→Option Slot}(C:mF X.prog X.w X.K X.mg X.base k fn ps (gG X.K ms Fn))(hr:cU k X.A)(hg:Gl X x)(hm:X.mg x=some (.ref fn))(ha:DM X z (e::es) ms fs)(iE:(x==("__debug__":Str))=false:=by decide)(he:starEach (e::es) X.env=(false,eval e X.env)::starEach es X.env:=by rfl)(m8:(backTo pos (starEach es X.env)).any (·.1)=false:=by rfl):DE X z (.Call (.Name x p) (e::es) [] pos) (bD Fn fs):=PE.weak (Cb C hr hg hm ha iE he m8) fun σ H Q ⟨η,F,d,r,e,k⟩=>by
  unfold bD at e;obtain⟨ds,h1,h⟩:=cR.mp e;obtain⟨s,h2,h⟩:=cR.mp h;refine⟨η,F,ds,r,h1,fun vs H1 F1 g1 q1=>?_⟩;show gG X.K ms Fn (vs++[]) H1 Q E0;rw[xH];refine⟨F1,ds,s,g1.base,q1,h2,?_⟩;cases s with
  |sh d'=>cases h;exact fun v H' F' g2 q2=>k v H' F' (g1.trans g2) q2
  |ol Bu=>cases h;intro p vs H' F' g2 hp hF hH hd;have hs:bH F' (upd F' p (.lst vs)):=fV hF _;exact k _ _ _ ((g1.trans g2).share g2.base hH (g1.ent.free hp)) (aK.mpr ⟨p,vs,rfl,eW.of ax,bp hs _ _ hd⟩)
  |pr Bu Um=>cases h;intro a p vs ws H' F' g2 hp hF hH hd ha hr;have hs:bH F' (upd F' p (.lst vs)):=fV hF _;exact k _ _ _ ((g1.trans g2).share g2.base hH (g1.ent.free hp)) (aI.mpr ⟨a,_,rfl,hs _ _ ha,av.mpr ⟨_,_,rfl,aK.mpr ⟨p,vs,rfl,eW.of ax,bp hs _ _ hd⟩,bp hs _ _ hr⟩⟩)
  |_=>cases h
theorem MJ{ps:dC}{Fn:List D→Option Slot}(C:mF X.prog X.w X.K X.mg X.base k fn ps (gG X.K ms Fn))(hr:cU k X.A)(hg:Gl X x)(hm:X.mg x=some (.ref fn))(ha:DM X z (e::es) ms fs)(iE:(x==("__debug__":Str))=false:=by decide)(he:starEach (e::es) X.env=(false,eval e X.env)::starEach es X.env:=by rfl)(m8:(backTo pos (starEach es X.env)).any (·.1)=false:=by rfl):DO X z (.Call (.Name x p) (e::es) [] pos) (EE Fn fs):=PE.weak (Cb C hr hg hm ha iE he m8) fun σ H Q ⟨η,F,d,r,e,k⟩=>by
  unfold EE at e;obtain⟨ds,h1,h⟩:=cR.mp e;obtain⟨s,h2,h⟩:=cR.mp h;refine⟨η,F,ds,r,h1,fun vs H1 F1 g1 q1=>?_⟩;show gG X.K ms Fn (vs++[]) H1 Q E0;rw[xH];refine⟨F1,ds,s,g1.base,q1,h2,?_⟩;cases s with
  |ol Bu=>cases h;exact fun p vs H' F' g2 hp hF hH hd=>k p vs H' F' (g1.trans g2) (g1.ent.free hp) hF hH hd
  |_=>cases h
def xh(K:PySem.W.Frag)(g:List D→Option D)(r:List V→Hp→VK→Prop):Prop:=∀(F H:Hp) (ds:List D) (d:D) (vs:List V) (Q:VK),Base F H→g ds=some d→bz K H ds vs→(∀w,Den K F d w→Q w H)→r vs H Q
def iu(g:List D→Option D)(fs:LF):EF:=fun η=>(fs η).bind g
theorem bJ{id:String}{g:List D→Option D}{r:List V→Hp→VK→Prop}(hc:mw X (.builtin id) r)(hgd:xh X.K g r)(hg:Gl X x)(hm:X.mg x=none)(hv:bootBuiltins x=some (.builtin id))(ha:DM X z (e::es) ms fs)(hn:x≠"__name__":=by decide)(iE:(x==("__debug__":Str))=false:=by decide)(he:starEach (e::es) X.env=(false,eval e X.env)::starEach es X.env:=by rfl)(m8:(backTo pos (starEach es X.env)).any (·.1)=false:=by rfl):DE X z (.Call (.Name x p) (e::es) [] pos) (iu g fs):=PE.weak (zL hc hg hm hv ha hn iE he m8) fun σ H Q ⟨η,F,d,r,e,k⟩=>by
  unfold iu at e;obtain⟨ds,h1,h⟩:=cR.mp e;exact⟨η,F,ds,r,h1,fun vs H1 F1 g1 q1=>hgd F1 H1 ds d vs Q g1.base h (uB g1.base.sub q1) fun w q=>k w H1 F1 g1 q⟩
theorem uE{K:PySem.W.Frag}{d:D}(h:bz K F [d] vs):∃v,vs=[v]∧Den K F d v:=by obtain⟨v,r,rfl,h1,h2⟩:=av.mp h;rw[aO.mp h2];exact⟨v,rfl,h1⟩
def dQ:List D→Option D
  |[.lst ds]=>some (.int ds.length)
  |[.tup ds]=>some (.int ds.length)
  |_=>none
theorem eu{K:PySem.W.Frag}:xh K dQ (fun xs H Q=>∃p ys,xs=[.ref p]∧(eW K H p ys∨gw K H p ys)∧Q (.int ys.length) H):=fun F H ds d vs Q b e h k=>by
  unfold dQ at e;split at e
  ·cases e;obtain⟨v,rfl,h'⟩:=uE h;obtain⟨a,ws,rfl,h1,h2⟩:=aK.mp h';exact⟨a,ws,rfl,.inl h1,k _ (aD.mpr (by rw[aJ h2]))⟩
  ·cases e;obtain⟨v,rfl,h'⟩:=uE h;obtain⟨a,ws,rfl,h1,h2⟩:=aI.mp h';exact⟨a,ws,rfl,.inr (gw.of h1),k _ (aD.mpr (by rw[aJ h2]))⟩
  ·cases e
def qe:List D→Option bK
  |[]=>some []
  |.int i::ds=>(qe ds).map (i::·)
  |_::_=>none
theorem qf:∀{ds:List D} {ns:bK},qe ds=some ns→ds=ns.map D.int
  |[],ns,h=>by cases h;rfl
  |.int i::ds,ns,h=>by obtain⟨r,h1,h2⟩:=iB.mp h;subst h2;rw[qf h1];rfl
theorem gY:∀(ns:bK),qe (ns.map D.int)=some ns
  |[]=>rfl
  |n::ns=>by show(qe (ns.map D.int)).map (n::·)=_;rw[gY ns];rfl
def Cg:List D→Option D
  |[.lst ds]=>(qe ds).map fun ns=>.int ns.sum
  |_=>none
theorem Jn{K:PySem.W.Frag}:xh K Cg (fun xs H Q=>∃(p:Addr) (ns:bK),xs=[.ref p]∧eW K H p (ns.map V.int)∧Q (.int ns.sum) H):=fun F H ds d vs Q b e h k=>by
  unfold Cg at e;split at e
  ·obtain⟨ns,h1,rfl⟩:=iB.mp e;obtain⟨v,rfl,h'⟩:=uE h;obtain⟨a,ws,rfl,h2,h3⟩:=aK.mp h';rw[qf h1] at h3;rw[jh h3] at h2;exact⟨a,ns,rfl,h2,k _ (aD.mpr rfl)⟩
  ·cases e
def fK:D→Option (List D)
  |.lst ds=>some ds
  |.tup ds=>some ds
  |_=>none
def jk(f:EF):EF:=fun η=>(f η).bind fun d=>(fK d).map D.tup
theorem qg(hx:x="tuple")(hg:Gl X x)(hm:X.mg x=none)(ha:DE X z e f)(hs:starEach [e] X.env=(false,eval e X.env)::starEach [] X.env:=by rfl):DE X z (.Call (.Name x p) [e] [] pos) (jk f):=by
  subst hx;refine PE.weak (rG wo hg hm zY (aW ha cN hs) (by decide) (by decide) hs rfl) fun σ H Q ⟨η,F,d,r,e,k⟩=>?_;unfold jk at e;obtain⟨d',h1,h⟩:=cR.mp e;obtain⟨ds,h2,rfl⟩:=iB.mp h;refine⟨η,F,d',r,h1,fun v H1 F1 g1 q1=>?_⟩;cases d' with
  |lst Bu =>
   cases h2;obtain⟨a,ws,rfl,h3,h4⟩:=aK.mp q1;have hz:ws.length≤sizeLine:=by
     rcases h3 with(h3|⟨o,h3⟩)|⟨o,its,n,_,_,_,_,hz,hv⟩
     ·exact g1.base.sR _ _ (g1.base.sub _ _ h3)
     ·exact g1.base.sR _ _ (g1.base.sub _ _ h3)
     ·rw[hv.length];simpa using hz
   refine⟨a,ws,rfl,.inl ⟨g1.base.sub.seq h3,fun l hl=>?_⟩⟩;have g2:=aG.put g1.base hl (.tup ws) hz;exact k _ _ _ (g1.trans g2) (aI.mpr ⟨l,ws,rfl,ax,bp g2.cz _ _ h4⟩)
  |tup Bu=>cases h2;obtain⟨a,ws,rfl,h3,h4⟩:=aI.mp q1;exact⟨a,ws,rfl,.inr ⟨gw.of (g1.base.sub _ _ h3),k _ _ _ g1 q1⟩⟩
  |_=>cases h2
def xi(f:EF):LF:=fun η=>(f η).bind fK
theorem nh{K:PySem.W.Frag}(b:Base F H){a:Addr}{ws:List V}(h:eW K H a ws):ws.length≤sizeLine:=by
  rcases h with(h3|⟨o,h3⟩)|⟨o,its,n,_,_,_,_,hz,hv⟩
  ·exact b.sR _ _ h3
  ·exact b.sR _ _ h3
  ·rw[hv.length];simpa using hz
theorem EG(hx:x="list")(hg:Gl X x)(hm:X.mg x=none)(ha:DE X z e f)(hs:starEach [e] X.env=(false,eval e X.env)::starEach [] X.env:=by rfl):DO X z (.Call (.Name x p) [e] [] pos) (xi f):=by
  subst hx;refine PE.weak (rG pQ hg hm x8 (aW ha cN hs) (by decide) (by decide) hs rfl) fun σ H Q ⟨η,F,d,r,e,k⟩=>?_;unfold xi at e;obtain⟨d',h1,h2⟩:=cR.mp e;refine⟨η,F,d',r,h1,fun v H1 F1 g1 q1=>?_⟩;cases d' with
  |lst Bu=>cases h2;obtain⟨a,ws,rfl,h3,h4⟩:=aK.mp q1;have Pb:=g1.base.sub.seq h3;refine⟨a,ws,rfl,.inl Pb,fun l hl=>?_⟩;have g2:=aG.own g1.base hl (.lst ws) (nh g1.base Pb) rfl;exact k l ws _ F1 (g1.trans g2) (g1.ent.free hl) (g1.base.sub.free hl) ax h4
  |tup Bu=>cases h2;obtain⟨a,ws,rfl,h3,h4⟩:=aI.mp q1;refine⟨a,ws,rfl,.inr (gw.of (g1.base.sub _ _ h3)),fun l hl=>?_⟩;have g2:=aG.own g1.base hl (.lst ws) (show ws.length≤sizeLine from g1.base.sR _ _ (g1.base.sub _ _ h3)) rfl;exact k l ws _ F1 (g1.trans g2) (g1.ent.free hl) (g1.base.sub.free hl) ax h4
  |_=>cases h2
def iQ:D→D→Option D
  |.lst ds,.int i=>rJ ds i
  |.tup ds,.int i=>rJ ds i
  |_,_=>none
theorem tU{K:PySem.W.Frag}{i:Int}{d:D}(h:bz K F ds vs)(e:rJ ds i=some d):∃v,rJ vs i=some v∧Den K F d v:=by unfold rJ at e⊢;rw[aJ h] at e;obtain⟨j,h1,h2⟩:=cR.mp e;obtain⟨v,h3,h4⟩:=Ae h h2;exact⟨v,by rw[h1];exact h3,h4⟩
theorem iL(ha:DB X z a fa)(hb:DB X z b fb)(hs:tR b:=by intro _ _;rfl):DB X z (.Subscript a b pos) (ae iQ fa fb):=PE.weak (ik (du.or Iu) ha hb hs) fun σ H Q ⟨η,F,d,r,e,k⟩=>by
  obtain⟨x,y,h1,h2,h3⟩:=i9 e;refine⟨η,F,x,r,h1,fun v H1 F1 g1 q1=>⟨η,F1,y,r.grow g1,h2,fun u H2 F2 g2 q2=>?_⟩⟩;have q1:=aL g2.ent _ _ q1;unfold iQ at h3;split at h3
  ·obtain⟨a,ws,rfl,h4,h5⟩:=aK.mp q1;rw[aD.mp q2];obtain⟨v,h6,h7⟩:=tU h5 h3;exact .inl ⟨a,ws,_,v,rfl,rfl,h4,h6,k v H2 F2 (g1.trans g2) h7⟩
  ·obtain⟨a,ws,rfl,h4,h5⟩:=aI.mp q1;rw[aD.mp q2];obtain⟨v,h6,h7⟩:=tU h5 h3;exact .inr ⟨a,ws,_,v,rfl,rfl,gw.of h4,h6,k v H2 F2 (g1.trans g2) h7⟩
  ·cases h3
theorem EH(ha:DE X z a fa)(hb:DB X z b fb)(hs:tR b:=by intro _ _;rfl):DE X z (.Subscript a b pos) (ae iQ fa fb):=PE.weak (ik (du.or Iu) ha hb hs) fun σ H Q ⟨η,F,d,r,e,k⟩=>by
  obtain⟨x,y,h1,h2,h3⟩:=i9 e;refine⟨η,F,x,r,h1,fun v H1 F1 g1 q1=>⟨η,F1,y,r.grow g1,h2,fun u H2 F2 g2 q2=>?_⟩⟩;have q1:=aL g2.cz _ _ q1;unfold iQ at h3;split at h3
  ·obtain⟨a,ws,rfl,h4,h5⟩:=aK.mp q1;rw[aD.mp q2];obtain⟨v,h6,h7⟩:=tU h5 h3;exact .inl ⟨a,ws,_,v,rfl,rfl,g2.base.sub.seq h4,h6,k v H2 F2 (g1.trans g2) h7⟩
  ·obtain⟨a,ws,rfl,h4,h5⟩:=aI.mp q1;rw[aD.mp q2];obtain⟨v,h6,h7⟩:=tU h5 h3;exact .inr ⟨a,ws,_,v,rfl,rfl,gw.of (g2.base.sub _ _ h4),h6,k v H2 F2 (g1.trans g2) h7⟩
  ·cases h3
def ab7(cs:bK)(f:EF):EF:=fun η=>(f η).bind fun d=>match d with|.int i=>(rJ cs i).map D.int|_=>none
abbrev PF:=aY→Option (Option Int)
def vP(K:PySem.W.Frag)(z:Zc)(f:PF):TO:=fun σ H Q=>∃η F o,Rel K z F H σ η∧f η=some o∧∀H' F',aG F H F' H'→Q o H'
def DP(X:Cx)(z:Zc)(e:Option Expr)(f:PF):Prop:=PO X e (vP X.K z f)
def Ag:PF:=fun _=>some none
def gM(f:EF):PF:=fun η=>(f η).bind fun d=>match d with|.int i=>some (some i)|_=>none
theorem PO.weak{e:Option Expr}{t t':TO}(h:PO X e t)(k:∀σ H Q,t' σ H Q→t σ H Q):PO X e t':=fun pins s σ H Q I q=>h pins s σ H Q I (k σ H Q q)
theorem EI:DP X z none Ag:=PO.weak xU fun σ H Q ⟨η,F,o,r,e,k⟩=>by cases e;exact k H F (aG.refl r.base)
theorem jM(h:DB X z e f):DP X z (some e) (gM f):=PO.weak (Ef h) fun σ H Q ⟨η,F,o,r,e,k⟩=>by
  unfold gM at e;obtain⟨d,h1,h2⟩:=cR.mp e;cases d with
  |int i=>cases h2;exact⟨η,F,_,r,h1,fun v H' F' g q=>⟨i,aD.mp q,k H' F' g⟩⟩
  |_=>cases h2
def cutD(ds:List D)(lo hi:Option Int):List D:=(ds.drop (HT.rh ds.length 0 lo)).take (HT.rh ds.length ds.length hi-HT.rh ds.length 0 lo)
def mH(f:EF)(pl ph:PF):LF:=fun η=>(f η).bind fun d=>(pl η).bind fun l=>(ph η).bind fun h=>match d with|.lst ds=>some (cutD ds l h)|_=>none
theorem Ah{lo hi:Option Expr}{pl ph:PF}(ha:DE X z e f)(hl:DP X z lo pl)(hh:DP X z hi ph):DO X z (.Subscript e (.Slice lo hi none p2) pos) (mH f pl ph):=PE.weak (zM Mm ha hl hh) fun σ H Q ⟨η,F,d,r,e,k⟩=>by
  unfold mH at e;obtain⟨d',h1,e⟩:=cR.mp e;obtain⟨l,h2,e⟩:=cR.mp e;obtain⟨h,h3,e⟩:=cR.mp e;cases d' with
  |lst ds=>cases e;refine⟨η,F,_,r,h1,fun v H1 F1 g1 q1=>⟨η,F1,l,r.grow g1,h2,fun H2 F2 g2=>⟨η,F2,h,(r.grow g1).grow g2,h3,fun H3 F3 g3=>?_⟩⟩⟩;obtain⟨a,ws,rfl,h4,h5⟩:=aK.mp (aL (g2.cz.trans g3.cz) _ _ q1);refine⟨a,ws,rfl,g3.base.sub.seq h4,fun p hp=>?_⟩;have hz:(BZ ws l h).length≤sizeLine:=gy (sP _ _ _) (nh g3.base (g3.base.sub.seq h4));have g4:=aG.own g3.base hp (.lst (BZ ws l h)) hz rfl;have Us:=(g1.trans g2).trans g3;refine k p _ _ F3 (Us.trans g4) (Us.ent.free hp) (g3.base.sub.free hp) ax ?_;unfold cutD BZ;rw[aJ h5];exact rQ _ (rR _ h5)
  |_=>cases e
theorem Ci(h:n≤10000):n≤sizeLine:=gy h (by rw[ig];decide)
def GA:D→Option V
  |.non=>some .non
  |.bl b=>some (.bl b)
  |.int i=>some (.int i)
  |.str x=>some (.str x)
  |_=>none
theorem ni{K:PySem.W.Frag}{d:D}{w:V}(h:Den K F d v)(e:GA d=some w):v=w∧my w=true:=by
  cases d with
  |non=>cases e;exact⟨bI.mp h,rfl⟩
  |bl _=>cases e;exact⟨bu.mp h,rfl⟩
  |int _=>cases e;exact⟨aD.mp h,rfl⟩
  |str _=>cases e;exact⟨aQ.mp h,rfl⟩
  |_=>cases e
def GB:List D→Option (List V)
  |[]=>some []
  |d::ds=>(GA d).bind fun v=>(GB ds).map (v::·)
theorem uF{K:PySem.W.Frag}{F:Hp}:∀{ds:List D} {vs ws:List V},bz K F ds vs→GB ds=some ws→vs=ws∧ws.all my=true
  |[],vs,ws,h,e=>by cases e;exact⟨aO.mp h,rfl⟩
  |d::ds,vs,ws,h,e=>by obtain⟨v,h1,e⟩:=cR.mp e;obtain⟨r,h2,rfl⟩:=iB.mp e;obtain⟨v',r',rfl,h3,h4⟩:=av.mp h;obtain⟨e1,f1⟩:=ni h3 h1;obtain⟨e2,f2⟩:=uF h4 h2;subst e1 e2;exact⟨rfl,by rw[List.all_cons,f1,f2];rfl⟩
theorem xj:∀(ns:bK),GB (ns.map D.int)=some (ns.map V.int)
  |[]=>rfl
  |n::ns=>by show(some (V.int n)).bind _=_;simp[xj ns]
def inD(neg:Bool):D→D→Option D:=fun x y=>(GA x).bind fun v=>(fK y).bind fun ds=>(GB ds).map fun ws=>.bl (if neg then !O6 v ws else O6 v ws)
theorem Pg{K:PySem.W.Frag}(neg:Bool):EC K (inD neg) (W2 K neg):=fun F H x y d v u Q b e h1 h2 k=>by
  unfold inD at e;obtain⟨v',e1,e⟩:=cR.mp e;obtain⟨ds,e2,e⟩:=cR.mp e;obtain⟨ws,e3,rfl⟩:=iB.mp e;obtain⟨rfl,fv⟩:=ni h1 e1;cases y with
  |lst Bu=>cases e2;obtain⟨a,us,rfl,h3,h4⟩:=aK.mp h2;obtain⟨rfl,fw⟩:=uF h4 e3;exact⟨a,us,rfl,.inl h3,fv,fw,k _ (bu.mpr rfl)⟩
  |tup Bu=>cases e2;obtain⟨a,us,rfl,h3,h4⟩:=aI.mp h2;obtain⟨rfl,fw⟩:=uF h4 e3;exact⟨a,us,rfl,.inr (gw.of h3),fv,fw,k _ (bu.mpr rfl)⟩
  |_=>cases e2
def iI(C:Int→Int→Bool)(h:Int→Int→D):D→D→Option D
  |.int i,.int j=>if C i j=true then some (h i j) else none
  |_,_=>none
theorem MK{K:PySem.W.Frag}{C:Int→Int→Bool}{C':Int→Int→Prop}{h:Int→Int→Int}(hc:∀i j,C i j=true→C' i j):EC K (iI C fun i j=>.int (h i j)) (rI C' fun i j=>.int (h i j)):=fun F H x y d v u Q b e h1 h2 k=>by
  unfold iI at e;split at e
  · rename_i i j;by_cases Hu:C i j=true
    ·rw[ay Hu] at e;cases e;exact⟨i,j,aD.mp h1,aD.mp h2,hc i j Hu,k _ (aD.mpr rfl)⟩
    ·rw[az Hu] at e;cases e
  ·cases e
theorem Ph{K:PySem.W.Frag}{h:Int→Int→Int}:EC K (iI (fun _ _=>true) fun i j=>.int (h i j)) (Ma fun i j=>.int (h i j)):=fun F H x y d v u Q b e h1 h2 k=>by
  unfold iI at e;split at e
  ·rename_i i j;rw[ay rfl] at e;cases e;exact⟨i,j,aD.mp h1,aD.mp h2,k _ (aD.mpr rfl)⟩
  ·cases e
theorem EJ{K:PySem.W.Frag}{h:Int→Int→Bool}:EC K (iI (fun _ _=>true) fun i j=>.bl (h i j)) (Ma fun i j=>.bl (h i j)):=fun F H x y d v u Q b e h1 h2 k=>by
  unfold iI at e;split at e
  ·rename_i i j;rw[ay rfl] at e;cases e;exact⟨i,j,aD.mp h1,aD.mp h2,k _ (bu.mpr rfl)⟩
  ·cases e
def fZ:=iI (fun _ _=>true) fun i j=>.int (i+j)
def GC:=iI (fun _ _=>true) fun i j=>.int (i-j)
def mulC(i j:Int):Bool:=decide ((-(2^64)<i∧i<2^64)∨(-(2^64)<j∧j<2^64))
def wz:=iI mulC fun i j=>.int (i*j)
def divC(_ j:Int):Bool:=decide (0<j∧j<1073741824)
def Ai:=iI divC fun i j=>.int (i / j)
def iw(_ j:Int):Bool:=decide (0<j)
def cL:=iI iw fun i j=>.int (i%j)
def powC(i j:Int):Bool:=decide (0≤j∧j≤1000000∧i.natAbs<2^64)
def ML:=iI powC fun i j=>.int (i^j.toNat)
def yh:=iI (fun _ _=>true) fun i j=>.bl (decide (i<j))
def HC:=iI (fun _ _=>true) fun i j=>.bl (decide (j<i))
def Xp:=iI (fun _ _=>true) fun i j=>.bl (decide (j≤i))
theorem MN{i j:Int}(h:mulC i j=true):Mb i j:=by unfold mulC at h;have q:=of_decide_eq_true h;exact q
theorem MP{i j:Int}(h:divC i j=true):Ts i j:=by unfold divC at h;have q:=of_decide_eq_true h;exact q
theorem MQ{i j:Int}(h:powC i j=true):Tt i j:=by unfold powC at h;have q:=of_decide_eq_true h;exact q
theorem cW(ha:DB X z a fa)(hb:DB X z b fb):DE X z (.BinOp a .Add b pos) (ae fZ fa fb):=uy Qd Ph ha hb
theorem Cj(ha:DB X z a fa)(hb:DB X z b fb):DE X z (.BinOp a .Sub b pos) (ae GC fa fb):=uy Qe Ph ha hb
theorem oP(ha:DB X z a fa)(hb:DB X z b fb):DE X z (.BinOp a .Mult b pos) (ae wz fa fb):=uy Qf (MK fun i j h=>MN h) ha hb
theorem rZ(ha:DB X z a fa)(hb:DB X z b fb):DE X z (.BinOp a .FloorDiv b pos) (ae Ai fa fb):=uy Md (MK fun i j h=>MP h) ha hb
theorem cx(ha:DB X z a fa)(hb:DB X z b fb):DE X z (.BinOp a .Mod b pos) (ae cL fa fb):=uy Ic (MK fun i j h=>of_decide_eq_true h) ha hb
theorem QQ(ha:DB X z a fa)(hb:DB X z b fb):DE X z (.BinOp a .Pow b pos) (ae ML fa fb):=uy Qg (MK fun i j h=>MQ h) ha hb
theorem Pj(ha:DB X z a fa)(hb:DB X z b fb):DE X z (.Compare a [.Lt] [b] pos) (ae yh fa fb):=yf O1 EJ ha hb (j3 _)
theorem mI(ha:DB X z a fa)(hb:DB X z b fb):DT X z (.Compare a [.Lt] [b] pos) (bF (ae yh fa fb)):=oM O1 EJ ha hb (j3 _)
theorem uG(ha:DB X z a fa)(hb:DB X z b fb):DT X z (.Compare a [.Gt] [b] pos) (bF (ae HC fa fb)):=oM Tw EJ ha hb (j3 _)
theorem Ut(ha:DB X z a fa)(hb:DB X z b fb):DT X z (.Compare a [.GtE] [b] pos) (bF (ae Xp fa fb)):=oM Tx EJ ha hb (j3 _)
theorem Pk(ha:DB X z a fa)(hb:DB X z b fb)(hm:behindInMarks .In b=false:=by rfl):DT X z (.Compare a [.In] [b] pos) (bF (ae (inD false) fa fb)):=oM Gg (Pg false) ha hb hm
theorem QR(ha:DB X z a fa)(hb:DB X z b fb)(hm:behindInMarks .NotIn b=false:=by rfl):DT X z (.Compare a [.NotIn] [b] pos) (bF (ae (inD true) fa fb)):=oM xX (Pg true) ha hb hm
def EK:D→D→Option D
  |.non,.non=>some (.bl true)
  |_,.non=>some (.bl false)
  |_,_=>none
theorem EL{K:PySem.W.Frag}{d:D}(h:Den K F d v):v=.non↔d=.non:=by
  cases d with
  |non=>simp[bI.mp h]
  |bl _=>simp[bu.mp h]
  |int _=>simp[aD.mp h]
  |str _=>simp[aQ.mp h]
  |tup _=>obtain⟨a,vs,rfl,_⟩:=aI.mp h;simp
  |lst _=>obtain⟨a,vs,rfl,_⟩:=aK.mp h;simp
  |obj _=>obtain⟨a,vs,rfl,_⟩:=fW.mp h;simp
  |exc _=>obtain⟨a,rfl,_⟩:=fX.mp h;simp
theorem QS{K:PySem.W.Frag}:EC K EK (fun x y H Q=>y=.non∧Q (.bl (decide (x=.non))) H):=fun F H x y d v u Q b e h1 h2 k=>by
  have hy:y=.non:=by cases x<;>cases y<;>first|rfl|cases e
  subst hy;refine⟨bI.mp h2,k _ ?_⟩;have hd:d=.bl (decide (v=.non)):=by have q:=EL h1;cases x<;>cases e<;>simp[q]
  rw[hd];exact bu.mpr rfl
theorem Jo(ha:DB X z a fa)(hb:DB X z b fb):DE X z (.Compare a [.Is] [b] pos) (ae EK fa fb):=yf Qi QS ha hb (j3 _)
end
def Ck(K:PySem.W.Frag)(z:Zc)(F:Hp)(m:Bool)(d:D)(v:V):Prop:=match m with
  |true=>Den K F d v
  |false=>Den K z.H₀ d v
structure Walk (K:PySem.W.Frag) (z:Zc) (F:Hp) (J:It) (m:Bool) (ds:List D):Prop where
  go:∀F' H',bH F F'→aG z.F₀ z.H₀ F' H'→∀i,i<ds.length→J.go i H'
  BI:∀F' H',bH F F'→aG z.F₀ z.H₀ F' H'→∀(i:Nat) d x Bv,ds[i]?=some d→J.BI i H' x Bv→∃Jp,aG F' H' Jp Bv∧Ck K z Jp m d x
  stop:∀F' H',bH F F'→aG z.F₀ z.H₀ F' H'→J.stop ds.length H'
  len:ds.length≤sizeLine
def vI(K:PySem.W.Frag)(z:Zc)(m:Bool)(f:LF):TI:=fun σ H R=>∃η F ds,Rel K z F H σ η∧f η=some ds∧∀J H' F',aG F H F' H'→Walk K z F' J m ds→R J H'
def DI(X:Cx)(z:Zc)(tg iter:Expr)(m:Bool)(f:LF):Prop:=PI X tg iter (vI X.K z m f)
theorem PI.weak{t t':TI}(h:PI X tg e t)(k:∀σ H R,t' σ H R→t σ H R):PI X tg e t':=fun pins s σ H R I q=>h pins s σ H R I (k σ H R q)
section
variable {K:PySem.W.Frag} {z:Zc} {F:Hp}
theorem GD(h:eW K F a vs)(hd:bz K F ds vs)(hl:ds.length≤sizeLine):Walk K z F (VF K a) true ds where
  go:=fun F' H' s g i hi=>⟨vs,_,(s.trans g.base.sub).seq h,eP (by rw[←aJ hd];exact hi)⟩
  BI:=fun F' H' s g i d x Bv e y=>by obtain⟨rfl,y⟩:=y;have e2:=y vs ((s.trans g.base.sub).seq h);obtain⟨d',h1,h2⟩:=iZ hd e2;rw[e] at h1;cases h1;exact⟨F',aG.refl g.base,aL s _ _ h2⟩
  stop:=fun F' H' s g=>⟨vs,(s.trans g.base.sub).seq h,by rw[aJ hd];exact bG _⟩
  len:=hl
theorem Jq(h:gw K F a vs)(hd:bz K F ds vs)(hl:ds.length≤sizeLine):Walk K z F (WG K a) true ds where
  go:=fun F' H' s g i hi=>⟨vs,_,ji (s.trans g.base.sub) h,eP (by rw[←aJ hd];exact hi)⟩
  BI:=fun F' H' s g i d x Bv e y=>by obtain⟨rfl,y⟩:=y;have e2:=y vs (ji (s.trans g.base.sub) h);obtain⟨d',h1,h2⟩:=iZ hd e2;rw[e] at h1;cases h1;exact⟨F',aG.refl g.base,aL s _ _ h2⟩
  stop:=fun F' H' s g=>⟨vs,ji (s.trans g.base.sub) h,by rw[aJ hd];exact bG _⟩
  len:=hl
theorem Cm(h:eW K z.H₀ a vs)(hd:bz K z.H₀ ds vs)(hl:ds.length≤sizeLine):Walk K z F (VF K a) false ds where
  go:=fun F' H' s g i hi=>⟨vs,_,g.ent.seq h,eP (by rw[←aJ hd];exact hi)⟩
  BI:=fun F' H' s g i d x Bv e y=>by obtain⟨rfl,y⟩:=y;have e2:=y vs (g.ent.seq h);obtain⟨d',h1,h2⟩:=iZ hd e2;rw[e] at h1;cases h1;exact⟨F',aG.refl g.base,h2⟩
  stop:=fun F' H' s g=>⟨vs,g.ent.seq h,by rw[aJ hd];exact bG _⟩
  len:=hl
def cA(lo:Int)(n:Nat):List D:=(List.range n).map fun(i:Nat)=>D.int (lo+(i:Int))
theorem Cp{lo:Int}(hl:n≤sizeLine):Walk K z F (VG lo n) true (cA lo n) where
  go:=fun F' H' s g i hi=>by
    have q:i<n:=by simpa[cA] using hi
    exact q
  BI:=fun F' H' s g i d x Bv e y=>by
    obtain⟨rfl,rfl⟩:=y;refine⟨F',aG.refl g.base,?_⟩;unfold cA at e;rw[eS] at e;obtain⟨j,h1,rfl⟩:=iB.mp e;have h2:j=i:=by have h3:=kJ.mp h1;obtain⟨_,h4⟩:=h3;simpa using h4.symm
    subst h2;show Den K F' _ _;exact aD.mpr rfl
  stop:=fun F' H' s g=>by show n≤_;simp[cA]
  len:=by simpa[cA] using hl
end
section
variable {X:Cx} {z:Zc} {tg e a b:Expr} {f fa fb:EF} {pos p:Pos} {m:Bool}
def lS(f:EF):LF:=fun η=>(f η).bind fK
theorem kR(h:DE X z e f):DI X z tg e true (lS f):=fun pins s σ H R I ⟨η,F,ds,r,e,k⟩=>by
  unfold lS at e;obtain⟨d,h1,h2⟩:=cR.mp e;cases d with
  |lst Bu=>cases h2;refine D8 h pins s σ H R I ⟨η,F,_,r,h1,fun v H' F' g q=>?_⟩;obtain⟨a,vs,rfl,h3,h4⟩:=aK.mp q;have Pb:=g.base.sub.seq h3;exact⟨a,rfl,⟨vs,Pb⟩,k _ H' F' g (GD h3 h4 (by rw[aJ h4];exact nh g.base Pb))⟩
  |tup Bu=>cases h2;refine Qa h pins s σ H R I ⟨η,F,_,r,h1,fun v H' F' g q=>?_⟩;obtain⟨a,vs,rfl,h3,h4⟩:=aI.mp q;have Pb:=g.base.sub _ _ h3;exact⟨a,rfl,⟨vs,gw.of Pb⟩,k _ H' F' g (Jq (gw.of h3) h4 (by rw[aJ h4];exact g.base.sR _ _ Pb))⟩
  |_=>cases h2
def Jr(i:Nat):LF:=fun η=>match η[i]? with
  |some (some (.br (.lst ds)))=>some ds
  |_=>none
theorem Pl(i:Nat)(hN:X.N[i]?=some x:=by rfl)(hv:pL X.env.scope x:=by first|exact Or.inl rfl|exact Or.inr (Or.inl rfl)|exact Or.inr (Or.inr rfl))(hd:(x==("__debug__":Str))=false:=by decide)(dR:(x==("__classdict__":Str))=false:=by decide):DI X z tg (.Name x pos) false (Jr i):=fun pins s σ H R I ⟨η,F,ds,r,e,k⟩=>by
  unfold Jr at e;split at e
  ·rename_i Bu h;cases e;obtain⟨v,xR,hs⟩:=r.at_ i _ h;obtain⟨a,vs,rfl,h3,h4⟩:=aK.mp (show Den X.K z.H₀ (.lst ds) v from hs);refine D8 (cM hN hv hd dR) pins s σ H R I ⟨_,xR,a,rfl,⟨vs,r.mem.ent.seq h3⟩,?_⟩;exact k _ H F (aG.refl r.base) (Cm h3 h4 (by rw[aJ h4];exact nh r.base (r.mem.ent.seq h3)))
  ·cases e
def dE(f:EF):LF:=fun η=>(f η).bind fun d=>match d with|.int j=>if j≤10000∧-10000≤j then some (cA 0 j.toNat) else none|_=>none
theorem gZ(hg:Gl X "range")(hm:X.mg "range"=none)(ha:DB X z a fa)(hs:starEach [a] X.env=[(false,eval a X.env)]:=by rfl):DI X z tg (.Call (.Name "range" p) [a] [] pos) true (dE fa) :=
  PI.weak (FZ hg hm (aW ha cN hs) hs) fun σ H R ⟨η,F,ds,r,e,k⟩=>by
  unfold dE at e;obtain⟨d,h1,h2⟩:=cR.mp e;cases d with
  |int j =>
   by_cases hj:j≤10000∧-10000≤j
   ·have h2:(if j≤10000∧-10000≤j then some (cA 0 j.toNat) else none)=some ds:=h2;rw[ay hj] at h2;cases h2;exact⟨η,F,_,r,h1,fun v H' F' g q=>⟨j,by rw[aD.mp q],by omega,by omega,k _ H' F' g (Cp (Ci (by omega)))⟩⟩
   ·have h2:(if j≤10000∧-10000≤j then some (cA 0 j.toNat) else none)=some ds:=h2;rw[az hj] at h2;cases h2
  |_=>cases h2
end
def vG(K:PySem.W.Frag)(z:Zc)(m:Bool)(b:BF):TG:=fun v σ H Q=>∃η F d η',Rel K z F H σ η∧Ck K z F m d v∧b d η=some η'∧∀σ',Rel K z F H σ' η'→Q σ' H
def DG(X:Cx)(z:Zc)(m:Bool)(tg:Expr)(b:BF):Prop:=PG X tg (vG X.K z m b)
theorem PG.weak{t t':TG}(h:PG X tg t)(k:∀v σ H Q,t' v σ H Q→t v σ H Q):PG X tg t':=fun pins s σ H v u Q I r q=>h pins s σ H v u Q I r (k v σ H Q q)
def Xq(m:Bool)(d:D):Slot:=match m with
  |true=>.sh d
  |false=>.br d
theorem MR(m:Bool)(d:D):(Xq m d).own=false:=by cases m<;>rfl
theorem QT{K:PySem.W.Frag}{z:Zc}{m:Bool}{d:D}(h:Ck K z F m d v):fC K z F H v (Xq m d):=by cases m<;>exact h
def aU(m:Bool)(i:Nat):BF:=fun d η=>some (η.set i (some (Xq m d)))
section
variable {X:Cx} {z:Zc} {m:Bool} {pos:Pos}
theorem bN(i:Nat)(hN:X.N.Nodup)(hi:X.N[i]?=some x:=by rfl)(hx:Loc X.env.scope x:=by first|exact Or.inl rfl|exact Or.inr rfl)(hf:X.fn x=true∨X.env.scope.names.lookup x=some .local:=by first|exact .inl rfl|exact .inr rfl|assumption):DG X z m (.Name x pos) (aU m i) :=
  PG.weak (D6 hN hi hx hf) fun v σ H Q ⟨η,F,d,η',r,h,e,k⟩=>by
  cases e;exact k _ (r.set i (MR m d) (QT h))
def vGs(K:PySem.W.Frag)(z:Zc)(m:Bool)(b:List D→aY→Option aY):L8:=fun vs σ H Q=>∃η F ds η',Rel K z F H σ η∧(match m with|true=>bz K F ds vs|false=>bz K z.H₀ ds vs)∧b ds η=some η'∧∀σ',Rel K z F H σ' η'→Q σ' H
def V4(X:Cx)(z:Zc)(m:Bool)(tgs:List Expr)(b:List D→aY→Option aY):Prop:=LX X tgs (vGs X.K z m b)
theorem LX.weak{tg:List Expr}{t t':L8}(h:LX X tg t)(k:∀v σ H Q,t' v σ H Q→t v σ H Q):LX X tg t':=fun pins s σ H v u Q I r q=>h pins s σ H v u Q I r (k v σ H Q q)
def j6:List D→aY→Option aY:=fun ds η=>match ds with|[]=>some η|_=>none
def bY(b:BF)(bs:List D→aY→Option aY):List D→aY→Option aY:=fun ds η=>match ds with|d::r=>(b d η).bind fun η'=>bs r η'|[]=>none
theorem kU:V4 X z m [] j6:=LX.weak L9 fun vs σ H Q ⟨η,F,ds,η',r,h,e,k⟩=>by
  unfold j6 at e;split at e
  · cases e;refine⟨?_,k σ r⟩;cases m with
    |true=>exact aO.mp h
    |false=>exact aO.mp h
  ·cases e
theorem de{es:List Expr}{b:BF}{bs:List D→aY→Option aY}(h1:DG X z m e b)(h2:V4 X z m es bs)(hs:(assignEach (e::es) X.env).map (·.2)=assign e X.env::(assignEach es X.env).map (·.2):=by rfl):V4 X z m (e::es) (bY b bs) :=
  LX.weak (HY h1 h2 hs) fun vs σ H Q ⟨η,F,ds,η',r,h,e,k⟩=>by
  unfold bY at e;split at e
  · rename_i d rs;obtain⟨η1,e1,e2⟩:=cR.mp e;cases m with
    |true=>obtain⟨v,vr,rfl,q1,q2⟩:=av.mp h;exact⟨v,vr,rfl,η,F,d,η1,r,q1,e1,fun σ' r'=>⟨η1,F,rs,η',r',q2,e2,k⟩⟩
    |false=>obtain⟨v,vr,rfl,q1,q2⟩:=av.mp h;exact⟨v,vr,rfl,η,F,d,η1,r,q1,e1,fun σ' r'=>⟨η1,F,rs,η',r',q2,e2,k⟩⟩
  ·cases e
def j7(n:Nat)(bs:List D→aY→Option aY):BF:=fun d η=>match d with|.tup ds=>if ds.length=n then bs ds η else none|_=>none
theorem oQ{es:List Expr}{bs:List D→aY→Option aY}(hc:X.calm=true)(h:V4 X z m es bs)(hn:(assignEach es X.env).length=n:=by rfl)(BH:(assignEach es X.env).findIdx? (·.1)=none:=by rfl):DG X z m (.Tuple es k pos) (j7 n bs):=PG.weak (P6 hc h hn BH) fun v σ H Q ⟨η,F,d,η',r,h,e,k⟩=>by
  unfold j7 at e;split at e
  · rename_i ds;by_cases hl:ds.length=n
    · rw[ay hl] at e;cases m with
      |true=>obtain⟨a,vs,rfl,q1,q2⟩:=aI.mp (show Den X.K F (.tup ds) v from h);exact⟨a,vs,rfl,gw.of (r.base.sub _ _ q1),by rw[←aJ q2];exact hl,η,F,ds,η',r,q2,e,k⟩
      |false=>obtain⟨a,vs,rfl,q1,q2⟩:=aI.mp (show Den X.K z.H₀ (.tup ds) v from h);exact⟨a,vs,rfl,gw.of (r.mem.ent _ _ q1),by rw[←aJ q2];exact hl,η,F,ds,η',r,q2,e,k⟩
    ·rw[az hl] at e;cases e
  ·cases e
end
def fL(b:BF)(t:TF)(f:EF):List D→aY→Option (List D)
  |[],_=>some []
  |d::ds,η=>(b d η).bind fun η1=>(t η1).bind fun c=>if c=true then(f η1).bind fun x=>(fL b t f ds η).map (x::·) else fL b t f ds η
def fM(nt:Nat)(fi:List Nat)(l:LF)(b:BF)(t:TF)(f:EF):LF:=fun η=>(l η).bind fun ds=>fL b t f ds (oK nt fi η)
theorem xk{K:PySem.W.Frag}{z:Zc}{m:Bool}{nt:Nat}{l:LF}{b:BF}{t:TF}{f:EF}(hf:fi.Nodup):∀σ H Q,vO K z (fM nt fi l b t f) σ H Q→IU (vI K z m l) nt fi (vG K z m b) (vT K z t) (vE K z f) σ H Q:=fun σ H Q ⟨η,F,ds,r,e,k⟩=>by
  unfold fM at e;obtain⟨xs,h1,h2⟩:=cR.mp e;refine⟨η,F,xs,r,h1,fun J H1 F1 g1 wk=>?_⟩;have r1:=r.grow g1
  -- the word: behind i turns,the items so far are those of a beginning of ds
  refine⟨fun i n ys H'=>n=xs.length-i∧i≤xs.length∧∃F' Pm QV,aG F1 H1 F' H'∧ds=Pm++QV∧bz K F' Pm ys∧Pm.length≤i∧fL b t f (xs.drop i) (oK nt fi η)=some QV,⟨xs.length,by simp,iC _,F1,[],ds,aG.refl g1.base,rfl,aO.mpr rfl,iC _,by simpa using h2⟩,?_⟩;rintro i n ys H' ⟨rfl,hi,F',Pm,QV,g2,QW,q,hl,hc⟩;have uH:=(r1.mem.trans g2)
  have hyl:=aJ q;by_cases dY:i<xs.length
  · refine .inr ⟨wk.go F' H' g2.cz uH i dY,by have:=wk.len;omega,?_⟩;have ed:xs.drop i=xs[i]::xs.drop (i+1):=List.drop_eq_getElem_cons dY;rw[ed] at hc;unfold fL at hc;obtain⟨η1,c1,hc⟩:=cR.mp hc;obtain⟨c,c2,hc⟩:=cR.mp hc;refine⟨fun y H4=>c=true∧∃F4 x Sy,aG F1 H1 F4 H4∧Den K F4 x y∧bz K F4 Pm ys∧fL b t f (xs.drop (i+1)) (oK nt fi η)=some Sy∧QV=x::Sy,fun H3=>c=false∧∃F3,aG F1 H1 F3 H3∧bz K F3 Pm ys,?_,?_,?_⟩
    ·rintro y H4 ⟨_,F4,x,Sy,g4,q1,q2,q3,rfl⟩;exact⟨xs.length-(i+1),by omega,rfl,dY,F4,Pm++[x],Sy,g4,by rw[QW];simp,rP q2 q1,by simp;omega,q3⟩
    ·rintro H3 ⟨rfl,F3,g3,q2⟩;exact⟨xs.length-(i+1),by omega,rfl,dY,F3,Pm,QV,g3,QW,q2,by omega,hc⟩
    · intro x Bv y;obtain⟨Jp,g3,it⟩:=wk.BI F' H' g2.cz uH i xs[i] x Bv (by simp[dY]) y;have rb:Rel K z Jp Bv (mC nt fi σ) (oK nt fi η):=((r1.grow g2).grow g3).block nt hf;refine⟨oK nt fi η,Jp,xs[i],η1,rb,it,c1,fun σ' r'=>⟨η1,Jp,c,r',c2,fun H3 F3 g4=>?_⟩⟩;cases c with
      |true=>have hc:(f η1).bind (fun x=>(fL b t f (xs.drop (i+1)) (oK nt fi η)).map (x::·))=some QV:=hc;obtain⟨x',c3,hc⟩:=cR.mp hc;obtain⟨Sy,c4,c5⟩:=iB.mp hc;refine⟨η1,F3,x',r'.grow g4,c3,fun v H4 F4 g5 q5=>⟨rfl,F4,x',Sy,(((g2.trans g3).trans g4).trans g5),q5,bp ((g3.cz.trans g4.cz).trans g5.cz) _ _ q,c4,c5.symm⟩⟩
      |false=>exact⟨rfl,F3,((g2.trans g3).trans g4),bp (g3.cz.trans g4.cz) _ _ q⟩
  · have ei:i=xs.length:=by omega
    subst ei;have Xr:QV=[]:=by rw[List.drop_length] at hc;unfold fL at hc;cases hc;rfl
    subst Xr;rw[xH] at QW;subst QW;have hz:ys.length≤sizeLine:=by have:=wk.len;omega
    refine .inl ⟨wk.stop F' H' g2.cz uH,hz,fun p hp=>?_⟩;have g3:=aG.own g2.base hp (.lst ys) hz rfl;exact k p ys _ F' ((g1.trans g2).trans g3) ((g1.trans g2).ent.free hp) (g2.base.sub.free hp) ax q
section
variable {X:Cx} {z:Zc} {m:Bool} {pos:Pos} {tg elt iter:Expr} {ifs:List Expr} {tgs:dC} {fi:List Nat} {scope:Scope} {l:LF} {b:BF} {t:TF} {f:EF}
def MS(X:Cx)(z:Zc)(ifs:List Expr)(t:TF):Prop:=Gv X ifs (vT X.K z t)
def jN:TF:=fun _=>some true
theorem qh:MS X z [] jN:=fun pins s σ H Q I ⟨η,F,c,r,e,k⟩=>by cases e;exact IJ pins s σ H Q I (k H F (aG.refl r.base))
theorem ER{c:Expr}(h:DT X z c t):MS X z [c] t:=IK h
theorem nq(hc:X.calm=true)(B:fJ X tgs fi scope)(hf:fi.Nodup)(hi:DI X z tg iter m l)(hg:∀C ex s H,DG (iO X tgs fi scope C ex s H) z m tg b)(ht:∀C ex s H,MS (iO X tgs fi scope C ex s H) z ifs t)(he:∀C ex s H,DE (iO X tgs fi scope C ex s H) z elt f)(hs:∀x,foldedSetIterable iter X.env x=pure x:=by intro _;rfl):DO X z (.ListComp elt [⟨tg,iter,ifs,0⟩] scope pos) (fM tgs.length fi l b t f) :=
  PE.weak (Mx (g:=vG X.K z m b) (tt:=vT X.K z t) (te:=vE X.K z f) hc B hi (fun C ex s H=>hg C ex s H) (fun C ex s H=>ht C ex s H) (fun C ex s H=>he C ex s H) hs) (xk hf)
end
section
variable {X:Cx} {z:Zc} {e a b:Expr} {f:EF} {fl:LF} {pos:Pos} {st:Stmt} {rest:List Stmt} {g g1 g2:SF}
def bS:SF:=fun η=>some (.nx η)
def bj(g1 g2:SF):SF:=fun η=>(g1 η).bind fun o=>match o with|.nx η'=>g2 η'|o=>some o
theorem aZ:Ji X z [] bS:=xM.weak xN fun D σ H ⟨η,F,o,r,e,k⟩=>by cases e;exact k σ H F r (bH.refl _)
theorem au(h:DS X z st g):Ji X z [st] g:=m7 h
theorem ye.mono{K:PySem.W.Frag}{o:Out}{D:Ends}(h:ye K z F o D)(s:bH F F'):ye K z F' o D:=by
  cases o with
  |nx η'=>exact fun σ' H' F2 r s2=>h σ' H' F2 r (s.trans s2)
  |bk η'=>exact fun σ' H' F2 r s2=>h σ' H' F2 r (s.trans s2)
  |ct η'=>exact fun σ' H' F2 r s2=>h σ' H' F2 r (s.trans s2)
  |rt r=>exact h
theorem ah(h1:DS X z st g1)(h2:Ji X z rest g2):Ji X z (st::rest) (bj g1 g2):=xM.weak (dc h1 h2) fun D σ H ⟨η,F,o,r,e,k⟩=>by
  unfold bj at e;obtain⟨o1,e1,e2⟩:=cR.mp e;refine⟨η,F,o1,r,e1,?_⟩;cases o1 with
  |nx η'=>exact fun σ' H' F' r' s'=>⟨η',F',o,r',e2,k.mono s'⟩
  |rt r=>cases e2;exact k
  |bk η'=>cases e2;exact k
  |ct η'=>cases e2;exact k
def iM(t:TF)(g1 g2:SF):SF:=fun η=>(t η).bind fun c=>if c=true then g1 η else g2 η
theorem cq{c:Expr}{xs ys:List Stmt}{t:TF}(hc:DT X z c t)(h1:Ji X z xs g1)(h2:Ji X z ys g2):DS X z (.If c xs ys pos) (iM t g1 g2):=PS.weak (HX hc h1 h2) fun D σ H ⟨η,F,o,r,e,k⟩=>by
  unfold iM at e;obtain⟨c,e1,e2⟩:=cR.mp e;refine⟨η,F,c,r,e1,fun H1 F1 gr=>?_⟩;cases c with
  |true=>exact⟨η,F1,o,r.grow gr,e2,k.mono gr.cz⟩
  |false=>exact⟨η,F1,o,r.grow gr,e2,k.mono gr.cz⟩
def dZ(f:EF):SF:=fun η=>(f η).map fun d=>.rt (.sh d)
theorem cE(h:DE X z e f):DS X z (.Return (some e) pos) (dZ f):=PS.weak (mv h) fun D σ H ⟨η,F,o,r,e,k⟩=>by unfold dZ at e;obtain⟨d,e1,rfl⟩:=iB.mp e;exact⟨η,F,d,r,e1,fun v H' F' gr q=>k v H' F' (r.mem.trans gr) q⟩
def uI(f:LF):SF:=fun η=>(f η).map fun d=>.rt (.ol d)
theorem yi(h:DO X z e fl):DS X z (.Return (some e) pos) (uI fl):=PS.weak (mv h) fun D σ H ⟨η,F,o,r,e,k⟩=>by unfold uI at e;obtain⟨d,e1,rfl⟩:=iB.mp e;exact⟨η,F,d,r,e1,fun p vs H' F' gr h1 h2 h3 h4=>k p vs H' F' (r.mem.trans gr) (r.mem.ent.free h1) h2 h3 h4⟩
def xl(i:Nat):SF:=fun η=>match η[i]? with
  |some (some (.ol ds))=>some (.rt (.ol ds))
  |_=>none
theorem tV(i:Nat)(hN:X.N[i]?=some x:=by rfl)(hv:pL X.env.scope x:=by first|exact Or.inl rfl|exact Or.inr (Or.inl rfl)|exact Or.inr (Or.inr rfl))(hd:(x==("__debug__":Str))=false:=by decide)(dR:(x==("__classdict__":Str))=false:=by decide):DS X z (.Return (some (.Name x px)) pos) (xl i):=PS.weak (mv (cM hN hv hd dR)) fun D σ H ⟨η,F,o,r,e,k⟩=>by
  unfold xl at e;split at e
  ·rename_i ds h;cases e;obtain⟨p,o,h1,h2,h3,h4,vs,rfl,h5⟩:=r.ownAt h rfl;exact⟨_,h1,k p vs H F r.mem h2 h3 h4 h5⟩
  ·cases e
def cy(i:Nat)(f:EF):SF:=fun η=>(f η).map fun d=>.nx (η.set i (some (.sh d)))
def nY(i:Nat)(f:LF):SF:=fun η=>(f η).map fun ds=>.nx (η.set i (some (.ol ds)))
theorem Js{K:PySem.W.Frag}:∀D σ H,vS K z (cy i f) D σ H→xO (vE K z f) (nQ i) D σ H:=fun D σ H ⟨η,F,o,r,e,k⟩=>by unfold cy at e;obtain⟨d,e1,rfl⟩:=iB.mp e;exact⟨η,F,d,r,e1,fun v H' F' gr q=>k _ H' F' ((r.grow gr).set i rfl q) gr.cz⟩
theorem GF{K:PySem.W.Frag}:∀D σ H,vS K z (nY i fl) D σ H→xO (vO K z fl) (nQ i) D σ H:=fun D σ H ⟨η,F,o,r,e,k⟩=>by unfold nY at e;obtain⟨d,e1,rfl⟩:=iB.mp e;refine⟨η,F,d,r,e1,fun p vs H' F' gr h1 h2 h3 h4=>k _ H' F' (r.yd gr i (sl:=.ol d) (p:=p) ⟨p,_,rfl,r.mem.ent.free h1,h2,h3,vs,rfl,h4⟩ rfl h1) gr.cz⟩
theorem bT(hN:X.N.Nodup)(h:DE X z e f)(hi:X.N[i]?=some x:=by rfl)(hx:Loc X.env.scope x:=by first|exact Or.inl rfl|exact Or.inr rfl)(hs:swapsWith e (some (.Name x pos')) pos.line X.env=pure false:=by rfl)(hf:X.fn x=true∨X.env.scope.names.lookup x=some .local:=by first|exact .inl rfl|exact .inr rfl|assumption):DS X z (.Assign [.Name x pos'] e pos) (cy i f):=PS.weak (je hN hi hx h hs hf) Js
theorem qi(hN:X.N.Nodup)(h:DO X z e fl)(hi:X.N[i]?=some x:=by rfl)(hx:Loc X.env.scope x:=by first|exact Or.inl rfl|exact Or.inr rfl)(hs:swapsWith e (some (.Name x pos')) pos.line X.env=pure false:=by rfl)(hf:X.fn x=true∨X.env.scope.names.lookup x=some .local:=by first|exact .inl rfl|exact .inr rfl|assumption):DS X z (.Assign [.Name x pos'] e pos) (nY i fl):=PS.weak (je hN hi hx h hs hf) GF
def j8(b:BF)(g:SF):List D→aY→Option Out
  |[],η=>some (.nx η)
  |d::ds,η=>(b d η).bind fun η1=>(g η1).bind fun o=>match o with
   |.nx η2=>j8 b g ds η2
   |.ct η2=>j8 b g ds η2
   |.bk η2=>some (.nx η2)
   |.rt r=>some (.rt r)
def mJ(l:LF)(b:BF)(g:SF):SF:=fun η=>(l η).bind fun ds=>j8 b g ds η
theorem g9{m:Bool}{iter:Expr}{l:LF}{b:BF}(hc:X.calm=true)(hi:DI X z tg iter m l)(hg:DG X z m tg b)(hb:Ji X z body g)(hp:PassesOwn (model X.prog X.w) X.A X.env X.xe:=by exact PassesOwn.never)(hs:∀x,foldedSetIterable iter X.env x=pure x:=by intro _;rfl):DS X z (.For tg iter body [] pos) (mJ l b g):=PS.weak (Ib hp hc hi hg hb hs) fun D σ H ⟨η,F,o,r,e,k⟩=>by
  unfold mJ at e;obtain⟨ds,e1,e2⟩:=cR.mp e;refine⟨η,F,ds,r,e1,fun J H1 F1 g1 wk=>?_⟩;have r1:=r.grow g1;have k1:=k.mono g1.cz;refine⟨fun i n σ' H'=>n=ds.length-i∧i≤ds.length∧∃η' F',Rel X.K z F' H' σ' η'∧bH F1 F'∧j8 b g (ds.drop i) η'=some o,⟨ds.length,by simp,iC _,η,F1,r1,bH.refl _,by simpa using e2⟩,?_⟩;rintro i n σ' H' ⟨rfl,hi,η',F',r',s',hf⟩;by_cases dY:i<ds.length
  · refine .inr ⟨wk.go F' H' s' r'.mem i dY,fun σ2 H2=>i+1≤ds.length∧∃η2 F2,Rel X.K z F2 H2 σ2 η2∧bH F1 F2∧j8 b g (ds.drop (i+1)) η2=some o,fun σ2 H2 h=>⟨ds.length-(i+1),by omega,rfl,h⟩,fun x Bv y=>?_⟩;obtain⟨Jp,g3,it⟩:=wk.BI F' H' s' r'.mem i ds[i] x Bv (by simp[dY]) y;have ed:ds.drop i=ds[i]::ds.drop (i+1):=List.drop_eq_getElem_cons dY;rw[ed] at hf;unfold j8 at hf;obtain⟨η1,c1,hf⟩:=cR.mp hf;obtain⟨o1,c2,hf⟩:=cR.mp hf;refine⟨η',Jp,ds[i],η1,r'.grow g3,it,c1,fun σ3 r3=>⟨η1,Jp,o1,r3,c2,?_⟩⟩;have s3:=s'.trans g3.cz;cases o1 with
    |nx η2=>exact fun σ4 H4 F4 r4 s4=>⟨dY,η2,F4,r4,s3.trans s4,hf⟩
    |ct η2=>exact fun σ4 H4 F4 r4 s4=>⟨dY,η2,F4,r4,s3.trans s4,hf⟩
    |bk η2=>cases hf;exact fun σ4 H4 F4 r4 s4=>k1 σ4 H4 F4 r4 (s3.trans s4)
    |rt rr=>cases hf;exact k1
  · have ei:i=ds.length:=by omega
    subst ei;rw[List.drop_length] at hf;unfold j8 at hf;cases hf;exact .inl ⟨wk.stop F' H' s' r'.mem,k1 σ' H' F' r' s'⟩
def kW(t:TF)(g:SF):Nat→aY→Option Out
  |0,_=>none
  |n+1,η=>(t η).bind fun c=>if c=true then(g η).bind fun o=>(match o with
   |.nx η2=>kW t g n η2
   |.ct η2=>kW t g n η2
   |.bk η2=>some (.nx η2)
   |.rt r=>some (.rt r)) else some (.nx η)
def Jt(n:Nat)(t:TF)(g:SF):SF:=kW t g n
theorem Ju(n:Nat){c:Expr}{t:TF}(hc:DT X z c t)(hb:Ji X z body g)(hp:PassesOwn (model X.prog X.w) X.A X.env X.xe:=by exact PassesOwn.never):DS X z (.While c body [] pos) (Jt n t g):=PS.weak (HZ hp hc hb) fun D σ H ⟨η,F,o,r,e,k⟩=>by
  refine⟨fun m σ' H'=>∃η' F',Rel X.K z F' H' σ' η'∧bH F F'∧kW t g m η'=some o,⟨n,η,F,r,bH.refl _,e⟩,?_⟩;rintro m σ' H' ⟨η',F',r',s',hw⟩;cases m with
  |zero=>cases hw
  |succ m =>
   unfold kW at hw;obtain⟨c,c1,hw⟩:=cR.mp hw;refine⟨η',F',c,r',c1,fun H1 F1 g1=>?_⟩;cases c with
   |true =>
    refine T5 ?_;rw[ay rfl] at hw;obtain⟨o1,c2,hw⟩:=cR.mp hw;refine⟨fun σ2 H2=>∃η2 F2,Rel X.K z F2 H2 σ2 η2∧bH F F2∧kW t g m η2=some o,fun σ2 H2 h=>⟨m,by omega,h⟩,η',F1,o1,r'.grow g1,c2,?_⟩;have s3:=s'.trans g1.cz;cases o1 with
    |nx η2=>exact fun σ4 H4 F4 r4 s4=>⟨η2,F4,r4,s3.trans s4,hw⟩
    |ct η2=>exact fun σ4 H4 F4 r4 s4=>⟨η2,F4,r4,s3.trans s4,hw⟩
    |bk η2=>cases hw;exact fun σ4 H4 F4 r4 s4=>k σ4 H4 F4 r4 (s3.trans s4)
    |rt rr=>cases hw;exact k
   |false=>refine QB ?_;rw[az gP] at hw;cases hw;exact k σ' H1 F1 (r'.grow g1) (s'.trans g1.cz)
def ic(i:Nat)(f:EF):SF:=fun η=>(f η).bind fun d=>match η[i]? with
  |some (some (.ol ds))=>if ds.length<10000 then some (.nx (η.set i (some (.ol (ds++[d]))))) else none
  |_=>none
theorem nr(i:Nat)(h:DE X z e f)(hN:X.N[i]?=some x:=by rfl)(hv:pL X.env.scope x:=by first|exact Or.inl rfl|exact Or.inr (Or.inl rfl)|exact Or.inr (Or.inr rfl))(hd:(x==("__debug__":Str))=false:=by decide)(dR:(x==("__classdict__":Str))=false:=by decide)(cG:attributeBase (.Name x px) "append" X.env (eval (.Name x px) X.env)=eval (.Name x px) X.env:=by rfl)(rK:((backTo aX (starEach [e] X.env)).all (fun x=>!x.1)&&(backToKw aX (keywordEach [] X.env)).all (fun x=>x.1.isSome)
      && decide (([e]:List Expr).length+([]:List Keyword).length+(if ([]:List Keyword).isEmpty then 0 else 1)<30))=true:=by rfl)(hline:(apos.endLine==aX.line)=true:=by rfl)(hs:starEach [e] X.env=(false,eval e X.env)::starEach [] X.env:=by rfl)(IW:swapsWith (.Call (.Attribute (.Name x px) "append" apos) [e] [] aX) none pos.line X.env=pure false:=by rfl):DS X z (.Expr (.Call (.Attribute (.Name x px) "append" apos) [e] [] aX) pos) (ic i f) :=
  PS.weak (kL (wZ PySem.F.plainAttrs_list PySem.F.slot_list_append PySem.F.type_list_append Gh (cM hN hv hd dR) (aW h cN hs) cG rK hline hs (by rfl)) IW) fun D σ H ⟨η,F,o,r,e,k⟩=>by
  unfold ic at e;obtain⟨d,e1,e2⟩:=cR.mp e;split at e2
  · rename_i ds h;by_cases hl:ds.length<10000
    ·rw[ay hl] at e2;cases e2;obtain⟨p,o,h1,h2,h3,h4,vs,rfl,h5⟩:=r.ownAt h rfl;refine⟨_,h1,.inl ⟨rfl,vs,eW.of h4⟩,η,F,d,r,e1,fun v H' F' g1 q=>?_⟩;have r1:=r.grow g1;have Xs:=g1.ent _ _ h4;have Uu:=aJ h5;refine⟨p,vs,v,rfl,rfl,Xs,jX (by omega) (Ci (bG _)),k _ _ F' (r1.write h rfl h1 ⟨vs++[v],rfl,rP (bp g1.cz _ _ h5) q⟩ ?_) g1.cz⟩;show(vs++[v]).length≤sizeLine;rw[lZ];exact Ci (by simp;omega)
    ·rw[az hl] at e2;cases e2
  ·cases e2
def Cq(i:Nat):SF:=fun η=>match η[i]? with
  |some (some (.ol _))=>some (.nx (η.set i (some (.ol []))))
  |_=>none
theorem Jv(i:Nat)(hN:X.N[i]?=some x:=by rfl)(hv:pL X.env.scope x:=by first|exact Or.inl rfl|exact Or.inr (Or.inl rfl)|exact Or.inr (Or.inr rfl))(hd:(x==("__debug__":Str))=false:=by decide)(dR:(x==("__classdict__":Str))=false:=by decide)(cG:attributeBase (.Name x px) "clear" X.env (eval (.Name x px) X.env)=eval (.Name x px) X.env:=by rfl)(hline:(apos.endLine==aX.line)=true:=by rfl)(IW:swapsWith (.Call (.Attribute (.Name x px) "clear" apos) [] [] aX) none pos.line X.env=pure false:=by rfl):DS X z (.Expr (.Call (.Attribute (.Name x px) "clear" apos) [] [] aX) pos) (Cq i) :=
  PS.weak (kL (B4 PySem.F.plainAttrs_list PySem.F.slot_list_clear PySem.F.type_list_clear zO (cM hN hv hd dR) cG hline) IW) fun D σ H ⟨η,F,o,r,e,k⟩=>by
  unfold Cq at e;split at e
  ·rename_i ds h;cases e;obtain⟨p,o,h1,h2,h3,h4,vs,rfl,h5⟩:=r.ownAt h rfl;exact⟨_,h1,.inl ⟨rfl,vs,eW.of h4⟩,p,vs,rfl,rfl,h4,k _ _ F (r.write h rfl h1 ⟨[],rfl,aO.mpr rfl⟩ (iC _)) (bH.refl _)⟩
  ·cases e
end
mutual
def D.iN:D→Nat→Bool
  |.tup xs,n+1=>D.Jw xs n
  |.tup _,0=>false
  |.lst xs,n+1=>D.Jw xs n
  |.lst _,0=>false
  |.obj _,_=>false
  |.exc _,_=>false
  |.non,_=>true
  |.bl _,_=>true
  |.int _,_=>true
  |.str _,_=>true
def D.Jw:List D→Nat→Bool
  |[],_=>true
  |d::ds,n=>D.iN d n&&D.Jw ds n
end
mutual
def dj:D→D→Bool
  |.non,.non=>true
  |.bl a,.bl b=>a==b
  |.bl a,.int b=>(if a then 1 else 0)==b
  |.int a,.bl b=>a==(if b then 1 else 0)
  |.int a,.int b=>a==b
  |.str a,.str b=>a==b
  |.tup xs,.tup ys=>Aj xs ys
  |.lst xs,.lst ys=>Aj xs ys
  |_,_=>false
def Aj:List D→List D→Bool
  |[],[]=>true
  |x::xs,y::ys=>dj x y&&Aj xs ys
  |_,_=>false
end
theorem kX:∀{xs ys:List D},xs.length≠ys.length→Aj xs ys=false
  |[],[],h=>absurd rfl h
  |[],_::_,_=>by rw[Aj];all_goals (intros;simp_all)
  |_::_,[],_=>by rw[Aj];all_goals (intros;simp_all)
  |x::xs,y::ys,h=>by rw[Aj,kX (xs:=xs) (ys:=ys) (fun e=>h (by simp[e])),Bool.and_false]
theorem qj:∀{xs ys:List D},xs.length=ys.length→Aj xs ys=(List.range xs.length).all fun j=>dj (xs.getD j .non) (ys.getD j .non)
  |[],[],_=>by rw[Aj];rfl
  |[],_::_,h=>by simp at h
  |_::_,[],h=>by simp at h
  |x::xs,y::ys,h=>by rw[Aj,qj (xs:=xs) (ys:=ys) (by simpa using h),eT,List.range_succ_eq_map,List.all_cons,List.all_map];rfl
mutual
theorem uJ:∀(d:D) (n:Nat),d.iN n=true→dj d d=true
  |.non,_,_=>by rw[dj]
  |.bl b,_,_=>by rw[dj];simp
  |.int b,_,_=>by rw[dj];simp
  |.str b,_,_=>by rw[dj];simp
  |.tup xs,0,h=>by rw[D.iN] at h;cases h
  |.tup xs,n+1,h=>by rw[D.iN] at h;rw[dj];exact uK xs n h
  |.lst xs,0,h=>by rw[D.iN] at h;cases h
  |.lst xs,n+1,h=>by rw[D.iN] at h;rw[dj];exact uK xs n h
  |.obj _,_,h=>by rw[D.iN] at h;cases h
  |.exc _,_,h=>by rw[D.iN] at h;cases h
theorem uK:∀(ds:List D) (n:Nat),D.Jw ds n=true→Aj ds ds=true
  |[],_,_=>by rw[Aj]
  |d::ds,n,h=>by rw[D.Jw,oz] at h;rw[Aj,uJ d n h.1,uK ds n h.2];rfl
end
section
variable {X:Cx} {pins:gu} {σ:St} {H:Hp} {s:Shared}
mutual
theorem yj(I:Inv X pins σ H s):∀(x y:D) (v:V),Den X.K H x v→Den X.K H y v→x=y
  |.non,y,v,h,q=>by have:=(EL q).mp (bI.mp h);exact this.symm
  |.bl b,y,v,h,q=>by
   rw[bu.mp h] at q;cases y with
   |bl c=>have e:=bu.mp q;injection e with e;rw[e]
   |non=>cases bI.mp q
   |int _=>cases aD.mp q
   |str _=>cases aQ.mp q
   |tup _=>obtain⟨_,_,e,_⟩:=aI.mp q;cases e
   |lst _=>obtain⟨_,_,e,_⟩:=aK.mp q;cases e
   |obj _=>obtain⟨_,_,e,_⟩:=fW.mp q;cases e
   |exc _=>obtain⟨_,e,_⟩:=fX.mp q;cases e
  |.int b,y,v,h,q=>by
   rw[aD.mp h] at q;cases y with
   |int c=>have e:=aD.mp q;injection e with e;rw[e]
   |non=>cases bI.mp q
   |bl _=>cases bu.mp q
   |str _=>cases aQ.mp q
   |tup _=>obtain⟨_,_,e,_⟩:=aI.mp q;cases e
   |lst _=>obtain⟨_,_,e,_⟩:=aK.mp q;cases e
   |obj _=>obtain⟨_,_,e,_⟩:=fW.mp q;cases e
   |exc _=>obtain⟨_,e,_⟩:=fX.mp q;cases e
  |.str b,y,v,h,q=>by
   rw[aQ.mp h] at q;cases y with
   |str c=>have e:=aQ.mp q;injection e with e;rw[e]
   |non=>cases bI.mp q
   |bl _=>cases bu.mp q
   |int _=>cases aD.mp q
   |tup _=>obtain⟨_,_,e,_⟩:=aI.mp q;cases e
   |lst _=>obtain⟨_,_,e,_⟩:=aK.mp q;cases e
   |obj _=>obtain⟨_,_,e,_⟩:=fW.mp q;cases e
   |exc _=>obtain⟨_,e,_⟩:=fX.mp q;cases e
  |.tup xs,y,v,h,q=>by
   obtain⟨a,vs,rfl,h1,h2⟩:=aI.mp h;cases y with
   |tup ys=>obtain⟨b,ws,e,h3,h4⟩:=aI.mp q;cases e;rw[h1] at h3;cases h3;rw[uL I xs ys vs h2 h4]
   |lst ys=>obtain⟨b,ws,e,h3,h4⟩:=aK.mp q;cases e;obtain⟨its,_,⟨o,n,e1,c1,_⟩,_⟩:=I.list h3;obtain⟨its',_,⟨o',e2,c2,_⟩,_⟩:=I.tuple (gw.of h1);rw[e1] at e2;cases e2;rw[c1] at c2;injection c2 with c3;exact absurd c3 (by decide)
   |obj C=>obtain⟨b,dx,e,h3,_⟩:=fW.mp q;cases e;rw[h1] at h3;cases h3
   |exc C=>obtain⟨b,e,h3⟩:=fX.mp q;cases e;rw[h1] at h3;cases h3
   |non=>cases bI.mp q
   |bl _=>cases bu.mp q
   |int _=>cases aD.mp q
   |str _=>cases aQ.mp q
  |.lst xs,y,v,h,q=>by
   obtain⟨a,vs,rfl,h1,h2⟩:=aK.mp h;cases y with
   |lst ys=>obtain⟨b,ws,e,h3,h4⟩:=aK.mp q;cases e;have e:=I.zF h1 h3;subst e;rw[uL I xs ys vs h2 h4]
   |tup ys=>obtain⟨b,ws,e,h3,h4⟩:=aI.mp q;cases e;obtain⟨its,_,⟨o,n,e1,c1,_⟩,_⟩:=I.list h1;obtain⟨its',_,⟨o',e2,c2,_⟩,_⟩:=I.tuple (gw.of h3);rw[e1] at e2;cases e2;rw[c1] at c2;injection c2 with c3;exact absurd c3 (by decide)
   |obj C =>
    obtain⟨b,dx,e,h3,_⟩:=fW.mp q;cases e;obtain⟨its,_,⟨o,n,e1,c1,_⟩,_⟩:=I.list h1;obtain⟨_,_,_,e2,_⟩:=(show bR X.prog X.w H s.heap _ (.ins C dx []) from I.bU _ _ h3)
    rw[e1] at e2;cases e2;cases c1
   |exc C =>
    obtain⟨b,e,h3⟩:=fX.mp q;cases e;obtain⟨its,_,⟨o,n,e1,c1,_⟩,_⟩:=I.list h1;obtain⟨⟨o2,e2,c2⟩,_⟩:=(show bR X.prog X.w H s.heap _ (.ext _) from I.bU _ _ h3)
    rw[e1] at e2;cases e2;rw[c1] at c2;cases c2
   |non=>cases bI.mp q
   |bl _=>cases bu.mp q
   |int _=>cases aD.mp q
   |str _=>cases aQ.mp q
  |.exc C,y,v,h,q=>by
   obtain⟨a,rfl,h1⟩:=fX.mp h;cases y with
   |exc C' =>
    obtain⟨b,e,h3⟩:=fX.mp q;cases e;obtain⟨⟨o2,e2,c2⟩,_⟩:=(show bR X.prog X.w H s.heap _ (.ext _) from I.bU _ _ h1)
    obtain⟨⟨o3,e3,c3⟩,_⟩:=(show bR X.prog X.w H s.heap _ (.ext _) from I.bU _ _ h3)
    rw[e2] at e3;cases e3;rw[c2] at c3;cases c3;rfl
   |obj C'=>obtain⟨b,Xn,e,h3,_⟩:=fW.mp q;cases e;rw[h1] at h3;cases h3
   |tup ys=>obtain⟨b,ws,e,h3,h4⟩:=aI.mp q;cases e;rw[h1] at h3;cases h3
   |lst ys =>
    obtain⟨b,ws,e,h3,h4⟩:=aK.mp q;cases e;obtain⟨its,_,⟨o,n,e1,c1,_⟩,_⟩:=I.list h3;obtain⟨⟨o2,e2,c2⟩,_⟩:=(show bR X.prog X.w H s.heap _ (.ext _) from I.bU _ _ h1)
    rw[e1] at e2;cases e2;rw[c1] at c2;cases c2
   |non=>cases bI.mp q
   |bl _=>cases bu.mp q
   |int _=>cases aD.mp q
   |str _=>cases aQ.mp q
  |.obj C,y,v,h,q=>by
   obtain⟨a,dx,rfl,h1,_⟩:=fW.mp h;cases y with
   |obj C'=>obtain⟨b,Xn,e,h3,_⟩:=fW.mp q;cases e;rw[h1] at h3;cases h3;rfl
   |exc C'=>obtain⟨b,e,h3⟩:=fX.mp q;cases e;rw[h1] at h3;cases h3
   |tup ys=>obtain⟨b,ws,e,h3,h4⟩:=aI.mp q;cases e;rw[h1] at h3;cases h3
   |lst ys =>
    obtain⟨b,ws,e,h3,h4⟩:=aK.mp q;cases e;obtain⟨its,_,⟨o,n,e1,c1,_⟩,_⟩:=I.list h3;obtain⟨_,_,_,e2,_⟩:=(show bR X.prog X.w H s.heap _ (.ins C dx []) from I.bU _ _ h1)
    rw[e1] at e2;cases e2;cases c1
   |non=>cases bI.mp q
   |bl _=>cases bu.mp q
   |int _=>cases aD.mp q
   |str _=>cases aQ.mp q
theorem uL(I:Inv X pins σ H s):∀(xs ys:List D) (vs:List V),bz X.K H xs vs→bz X.K H ys vs→xs=ys
  |[],ys,vs,h,q=>by
   rw[aO.mp h] at q;cases ys with
   |nil=>rfl
   |cons y ys=>obtain⟨_,_,e,_⟩:=av.mp q;cases e
  |x::xs,ys,vs,h,q=>by
   obtain⟨v,r,rfl,h1,h2⟩:=av.mp h;cases ys with
   |nil=>cases aO.mp q
   |cons y ys=>obtain⟨v',r',e,h3,h4⟩:=av.mp q;cases e;rw[yj I x y v h1 h3,uL I xs ys r h2 h4]
end
inductive At (H:Hp) (s:Shared):D→Value→Prop where
  |non:At H s .non .none
  |bl (b:Bool):At H s (.bl b) (.bool b)
  |int (i:Int) (t:Tok):At H s (.int i) (.int i t)
  |str (x:Str) (t:Tok):At H s (.str x) (.str x t)
  |tup {xs:List D} {a:Addr} {vs:List V} {its:cv} (h:s.heap.IsTuple a its.toArray) (hv:Vals vs its):At H s (.tup xs) (.ref a)
  |lst {xs:List D} {a:Addr} {vs:List V} {its:cv} (h:s.heap.IsList a its.toArray) (hv:Vals vs its):At H s (.lst xs) (.ref a)
theorem yk{xs ys:List D}{m:Nat}(h1:xs.length=n)(h2:ys.length=m):((List.range (min n m)).all (fun j=>dj (xs.getD j .non) (ys.getD j .non))&&n==m)=Aj xs ys:=by
  subst h1 h2;by_cases e:xs.length=ys.length
  ·rw[qj e,e,Nat.min_self];simp
  ·rw[kX e];simp[e]
mutual
theorem QX(I:Inv X pins σ H s):∀(x y:D) (n:Nat) (A:Around) (u v:V) (uu vv:Value),x.iN n=true→y.iN n=true→Den X.K H x u→Den X.K H y v→RelV u uu→RelV v vv→A.units+n<cLine→SeqAt.EqAt A s uu vv (dj x y)
  |x,y,n,A,u,v,uu,vv,ox,oy,hx,hy,ru,rv,hu=>by
   have qk:A.units<cLine:=by omega
   cases x with
   |obj C=>rw[D.iN] at ox;cases ox
   |exc C=>rw[D.iN] at ox;cases ox
   |non =>
    rw[bI.mp hx] at ru;cases ru;cases y with
    |obj C=>rw[D.iN] at oy;cases oy
    |exc C=>rw[D.iN] at oy;cases oy
    |non=>rw[bI.mp hy] at rv;cases rv;rw[dj];exact SeqAt.EqAt.same _
    |bl b=>rw[bu.mp hy] at rv;cases rv;rw[dj];exact SeqAt.EqAt.none_bool b;all_goals (intros;simp_all)
    |int b=>rw[aD.mp hy] at rv;obtain⟨t,rfl⟩:=rv;rw[dj];exact SeqAt.EqAt.none_int b t;all_goals (intros;simp_all)
    |str b=>rw[aQ.mp hy] at rv;obtain⟨t,rfl⟩:=rv;rw[dj];exact SeqAt.EqAt.none_str b t;all_goals (intros;simp_all)
    |tup ys=>obtain⟨b,ws,rfl,h3,h4⟩:=aI.mp hy;cases rv;obtain⟨its,_,p,_⟩:=I.tuple (gw.of h3);rw[dj];exact SeqAt.EqAt.none_tuple p qk;all_goals (intros;simp_all)
    |lst ys=>obtain⟨b,ws,rfl,h3,h4⟩:=aK.mp hy;cases rv;obtain⟨its,_,p,_⟩:=I.list h3;rw[dj];exact SeqAt.EqAt.none_list p.isList qk;all_goals (intros;simp_all)
   |bl a =>
    rw[bu.mp hx] at ru;cases ru;cases y with
    |obj C=>rw[D.iN] at oy;cases oy
    |exc C=>rw[D.iN] at oy;cases oy
    |non=>rw[bI.mp hy] at rv;cases rv;rw[dj];exact SeqAt.EqAt.bool_none a;all_goals (intros;simp_all)
    |bl b=>rw[bu.mp hy] at rv;cases rv;rw[dj];exact SeqAt.EqAt.bool_bool a b
    |int b=>rw[aD.mp hy] at rv;obtain⟨t,rfl⟩:=rv;rw[dj];exact SeqAt.EqAt.bool_int a b t
    |str b=>rw[aQ.mp hy] at rv;obtain⟨t,rfl⟩:=rv;rw[dj];exact SeqAt.EqAt.bool_str a b t;all_goals (intros;simp_all)
    |tup ys=>obtain⟨b,ws,rfl,h3,h4⟩:=aI.mp hy;cases rv;obtain⟨its,_,p,_⟩:=I.tuple (gw.of h3);rw[dj];exact SeqAt.EqAt.bool_tuple a p qk;all_goals (intros;simp_all)
    |lst ys=>obtain⟨b,ws,rfl,h3,h4⟩:=aK.mp hy;cases rv;obtain⟨its,_,p,_⟩:=I.list h3;rw[dj];exact SeqAt.EqAt.bool_list a p.isList qk;all_goals (intros;simp_all)
   |int a =>
    rw[aD.mp hx] at ru;obtain⟨t0,rfl⟩:=ru;cases y with
    |obj C=>rw[D.iN] at oy;cases oy
    |exc C=>rw[D.iN] at oy;cases oy
    |non=>rw[bI.mp hy] at rv;cases rv;rw[dj];exact SeqAt.EqAt.int_none a t0;all_goals (intros;simp_all)
    |bl b=>rw[bu.mp hy] at rv;cases rv;rw[dj];exact SeqAt.EqAt.int_bool a t0 b
    |int b=>rw[aD.mp hy] at rv;obtain⟨t,rfl⟩:=rv;rw[dj];exact SeqAt.EqAt.int_int a t0 b t
    |str b=>rw[aQ.mp hy] at rv;obtain⟨t,rfl⟩:=rv;rw[dj];exact SeqAt.EqAt.int_str a t0 b t;all_goals (intros;simp_all)
    |tup ys=>obtain⟨b,ws,rfl,h3,h4⟩:=aI.mp hy;cases rv;obtain⟨its,_,p,_⟩:=I.tuple (gw.of h3);rw[dj];exact SeqAt.EqAt.int_tuple a t0 p qk;all_goals (intros;simp_all)
    |lst ys=>obtain⟨b,ws,rfl,h3,h4⟩:=aK.mp hy;cases rv;obtain⟨its,_,p,_⟩:=I.list h3;rw[dj];exact SeqAt.EqAt.int_list a t0 p.isList qk;all_goals (intros;simp_all)
   |str a =>
    rw[aQ.mp hx] at ru;obtain⟨t0,rfl⟩:=ru;cases y with
    |obj C=>rw[D.iN] at oy;cases oy
    |exc C=>rw[D.iN] at oy;cases oy
    |non=>rw[bI.mp hy] at rv;cases rv;rw[dj];exact SeqAt.EqAt.str_none a t0;all_goals (intros;simp_all)
    |bl b=>rw[bu.mp hy] at rv;cases rv;rw[dj];exact SeqAt.EqAt.str_bool a t0 b;all_goals (intros;simp_all)
    |int b=>rw[aD.mp hy] at rv;obtain⟨t,rfl⟩:=rv;rw[dj];exact SeqAt.EqAt.str_int a t0 b t;all_goals (intros;simp_all)
    |str b=>rw[aQ.mp hy] at rv;obtain⟨t,rfl⟩:=rv;rw[dj];exact SeqAt.EqAt.str_str a t0 b t
    |tup ys=>obtain⟨b,ws,rfl,h3,h4⟩:=aI.mp hy;cases rv;obtain⟨its,_,p,_⟩:=I.tuple (gw.of h3);rw[dj];exact SeqAt.EqAt.str_tuple a t0 p qk;all_goals (intros;simp_all)
    |lst ys=>obtain⟨b,ws,rfl,h3,h4⟩:=aK.mp hy;cases rv;obtain⟨its,_,p,_⟩:=I.list h3;rw[dj];exact SeqAt.EqAt.str_list a t0 p.isList qk;all_goals (intros;simp_all)
   |tup xs =>
    obtain⟨a,vs,rfl,h1,h2⟩:=aI.mp hx;cases ru;obtain⟨its,vX,p1,_⟩:=I.tuple (gw.of h1);have p1:s.heap.IsTuple a its.toArray:=p1;cases y with
    |obj C=>rw[D.iN] at oy;cases oy
    |exc C=>rw[D.iN] at oy;cases oy
    |non=>rw[bI.mp hy] at rv;cases rv;rw[dj];exact SeqAt.EqAt.tuple_none p1 qk;all_goals (intros;simp_all)
    |bl b=>rw[bu.mp hy] at rv;cases rv;rw[dj];exact SeqAt.EqAt.tuple_bool b p1 qk;all_goals (intros;simp_all)
    |int b=>rw[aD.mp hy] at rv;obtain⟨t,rfl⟩:=rv;rw[dj];exact SeqAt.EqAt.tuple_int b t p1 qk;all_goals (intros;simp_all)
    |str b=>rw[aQ.mp hy] at rv;obtain⟨t,rfl⟩:=rv;rw[dj];exact SeqAt.EqAt.tuple_str b t p1 qk;all_goals (intros;simp_all)
    |lst ys=>obtain⟨b,ws,rfl,h3,h4⟩:=aK.mp hy;cases rv;obtain⟨cV,_,p2,_⟩:=I.list h3;rw[dj];exact SeqAt.EqAt.tuple_list p1 p2.isList qk;all_goals (intros;simp_all)
    |tup ys =>
     obtain⟨b,ws,rfl,h3,h4⟩:=aI.mp hy;cases rv;by_cases pC:a=b
     ·subst pC;rw[yj I _ _ _ hx hy,uJ _ n oy];exact SeqAt.EqAt.same _
     · obtain⟨cV,vY,p2,_⟩:=I.tuple (gw.of h3);cases n with
       |zero=>rw[D.iN] at ox;cases ox
       |succ n =>
        rw[D.iN] at ox oy;have key:=SeqAt.RcAt.tuples (A:=A) (e:=fun j=>dj (xs.getD j .non) (ys.getD j .non)) p1 (show s.heap.IsTuple b cV.toArray from p2) qk (fun j q1 q2 =>
          oR I xs ys n A.in1 vs ws its cV ox oy h2 h4 vX vY (by rw[in1_units];omega) j q1 q2)
        rw[yk (by rw[aJ h2,vX.length];simp) (by rw[aJ h4,vY.length];simp)] at key;rw[dj];exact SeqAt.EqAt.of_refs pC key
   |lst xs =>
    obtain⟨a,vs,rfl,h1,h2⟩:=aK.mp hx;cases ru;obtain⟨its,vX,p1,_⟩:=I.list h1;have p1:=p1.isList;cases y with
    |obj C=>rw[D.iN] at oy;cases oy
    |exc C=>rw[D.iN] at oy;cases oy
    |non=>rw[bI.mp hy] at rv;cases rv;rw[dj];exact SeqAt.EqAt.list_none p1 qk;all_goals (intros;simp_all)
    |bl b=>rw[bu.mp hy] at rv;cases rv;rw[dj];exact SeqAt.EqAt.list_bool b p1 qk;all_goals (intros;simp_all)
    |int b=>rw[aD.mp hy] at rv;obtain⟨t,rfl⟩:=rv;rw[dj];exact SeqAt.EqAt.list_int b t p1 qk;all_goals (intros;simp_all)
    |str b=>rw[aQ.mp hy] at rv;obtain⟨t,rfl⟩:=rv;rw[dj];exact SeqAt.EqAt.list_str b t p1 qk;all_goals (intros;simp_all)
    |tup ys=>obtain⟨b,ws,rfl,h3,h4⟩:=aI.mp hy;cases rv;obtain⟨cV,_,p2,_⟩:=I.tuple (gw.of h3);rw[dj];exact SeqAt.EqAt.list_tuple p1 (show s.heap.IsTuple b cV.toArray from p2) qk;all_goals (intros;simp_all)
    |lst ys =>
     obtain⟨b,ws,rfl,h3,h4⟩:=aK.mp hy;cases rv;by_cases pC:a=b
     ·subst pC;rw[yj I _ _ _ hx hy,uJ _ n oy];exact SeqAt.EqAt.same _
     · obtain⟨cV,vY,p2,_⟩:=I.list h3;have p2:=p2.isList;have l1:xs.length=its.toArray.size:=by rw[aJ h2,vX.length];simp
       have l2:ys.length=cV.toArray.size:=by rw[aJ h4,vY.length];simp
       rw[dj];by_cases hl:its.toArray.size=cV.toArray.size
       · cases n with
         |zero=>rw[D.iN] at ox;cases ox
         |succ n =>
          rw[D.iN] at ox oy;have key:=SeqAt.RcAt.lists (A:=A) (e:=fun j=>dj (xs.getD j .non) (ys.getD j .non)) p1 p2 hl qk (fun j q1 q2 =>
            oR I xs ys n A.in1 vs ws its cV ox oy h2 h4 vX vY (by rw[in1_units];omega) j q1 q2)
          rw[qj (by omega),l1];exact SeqAt.EqAt.of_refs pC key
       ·rw[kX (by omega)];exact SeqAt.EqAt.of_refs pC (SeqAt.RcAt.lists_lengths p1 p2 (by simpa using hl) qk)
  termination_by x=>sizeOf x
theorem oR(I:Inv X pins σ H s):∀(xs ys:List D) (n:Nat) (A:Around) (vs ws:List V) (its cV:cv),D.Jw xs n=true→D.Jw ys n=true→bz X.K H xs vs→bz X.K H ys ws→Vals vs its→Vals ws cV→A.units+n<cLine→∀j (h1:j<its.toArray.size) (h2:j<cV.toArray.size),SeqAt.EqAt A s its.toArray[j] cV.toArray[j] (dj (xs.getD j .non) (ys.getD j .non))
  |[],ys,n,A,vs,ws,its,cV,ox,oy,hx,hy,ru,rv,hu,j,h1,h2=>by rw[aO.mp hx] at ru;cases ru;simp at h1
  |x::xs,[],n,A,vs,ws,its,cV,ox,oy,hx,hy,ru,rv,hu,j,h1,h2=>by rw[aO.mp hy] at rv;cases rv;simp at h2
  |x::xs,y::ys,n,A,vs,ws,its,cV,ox,oy,hx,hy,ru,rv,hu,j,h1,h2=>by
   obtain⟨v,r,rfl,a1,a2⟩:=av.mp hx;obtain⟨w,r',rfl,b1,b2⟩:=av.mp hy;rw[D.Jw,oz] at ox oy;cases ru with
   |cons q1 q2 =>
    cases rv with
    |cons q3 q4 =>
     cases j with
     |zero=>exact QX I x y n A v w _ _ ox.1 oy.1 a1 b1 q1 q3 hu
     |succ j=>have:=oR I xs ys n A r r' _ _ ox.2 oy.2 a2 b2 q2 q4 hu j (by simpa using h1) (by simpa using h2);simpa using this
  termination_by xs=>sizeOf xs
end
end
end DL
abbrev eY:=Option DL.Slot
abbrev eZ:=List DL.D
variable {sl:DL.Slot} {η:DL.aY} {Fn:List DL.D→Option DL.Slot}
namespace DL
open PySem PySem.Spec L2
open PyProof.Rows hiding St pairAt
def Ct:D→D→Bool:=fun x y=>match GA x,GA y with
  |some a,some b=>Ie a b
  |_,_=>false
def GH:D→D→Bool
  |.tup _,.tup _=>true
  |.lst _,.lst _=>true
  |_,_=>false
def dF:D→D→Option D:=fun x y=>if Ct x y=true then some (.bl (dj x y)) else if GH x y=true&&(x.iN 8&&y.iN 8) then some (.bl (dj x y)) else none
def lT:D→D→Option D:=fun x y=>if Ct x y=true then some (.bl (!dj x y)) else if GH x y=true&&(x.iN 8&&y.iN 8) then some (.bl (!dj x y)) else none
theorem Jx{x y:D}{a b:V}(ha:GA x=some a)(hb:GA y=some b)(h:Ie a b=true):dj x y=decide (a=b):=by
  cases x with
  |non =>
   cases ha;cases y with
   |non=>cases hb;rw[dj];simp
   |bl c=>cases hb;rw[dj];simp;all_goals (intros;simp_all)
   |int c=>cases hb;rw[dj];simp;all_goals (intros;simp_all)
   |str c=>cases hb;rw[dj];simp;all_goals (intros;simp_all)
   |_=>cases hb
  |bl d =>
   cases ha;cases y with
   |non=>cases hb;rw[dj];simp;all_goals (intros;simp_all)
   |bl c=>cases hb;rw[dj,BL]
   |int c=>cases hb;cases h
   |str c=>cases hb;rw[dj];simp;all_goals (intros;simp_all)
   |_=>cases hb
  |int d =>
   cases ha;cases y with
   |non=>cases hb;rw[dj];simp;all_goals (intros;simp_all)
   |bl c=>cases hb;cases h
   |int c=>cases hb;rw[dj,xP]
   |str c=>cases hb;rw[dj];simp;all_goals (intros;simp_all)
   |_=>cases hb
  |str d =>
   cases ha;cases y with
   |non=>cases hb;rw[dj];simp;all_goals (intros;simp_all)
   |bl c=>cases hb;rw[dj];simp;all_goals (intros;simp_all)
   |int c=>cases hb;rw[dj];simp;all_goals (intros;simp_all)
   |str c=>cases hb;rw[dj,xQ]
   |_=>cases hb
  |_=>cases ha
def MT(K:PySem.W.Frag)(neg:Bool):R2:=fun x y H Q=>∃d e,Den K H d x∧Den K H e y∧GH d e=true∧d.iN 8=true∧e.iN 8=true∧Q (.bl (if neg then !dj d e else dj d e)) H
section
variable {X:Cx}
theorem Jy(hu:X.A.units+64<cLine):nR X (compareOp .Eq) (MT X.K false):=by
  intro pins s σ H x y v u Q I rx ry h;obtain⟨d,e,hd,he,hc,od,oe,q⟩:=h;have qk:X.A.units<cLine:=by omega
  cases d with
  |tup xs =>
   cases e with
   |tup ys =>
    obtain⟨a,vs,rfl,h1,h2⟩:=aI.mp hd;obtain⟨b,ws,rfl,h3,h4⟩:=aI.mp he;cases rx;cases ry;obtain⟨its,vX,p1,_⟩:=I.tuple (gw.of h1);obtain⟨cV,vY,p2,_⟩:=I.tuple (gw.of h3);rw[D.iN] at od oe;have key:=SeqAt.RcAt.tuples (A:=X.A) (e:=fun j=>dj (xs.getD j .non) (ys.getD j .non)) (show s.heap.IsTuple a its.toArray from p1) (show s.heap.IsTuple b cV.toArray from p2) qk (fun j q1 q2 =>
      oR I xs ys 7 X.A.in1 vs ws its cV od oe h2 h4 vX vY (by rw[in1_units];omega) j q1 q2)
    rw[yk (by rw[aJ h2,vX.length];simp) (by rw[aJ h4,vY.length];simp)] at key;exact key _ _ _ _ (bB I q (by rw[dj];rfl))
   |_=>cases hc
  |lst xs =>
   cases e with
   |lst ys =>
    obtain⟨a,vs,rfl,h1,h2⟩:=aK.mp hd;obtain⟨b,ws,rfl,h3,h4⟩:=aK.mp he;cases rx;cases ry;obtain⟨its,vX,p1,_⟩:=I.list h1;obtain⟨cV,vY,p2,_⟩:=I.list h3;rw[D.iN] at od oe;have l1:xs.length=its.toArray.size:=by rw[aJ h2,vX.length];simp
    have l2:ys.length=cV.toArray.size:=by rw[aJ h4,vY.length];simp
    by_cases hl:its.toArray.size=cV.toArray.size
    · have key:=SeqAt.RcAt.lists (A:=X.A) (e:=fun j=>dj (xs.getD j .non) (ys.getD j .non)) p1.isList p2.isList hl qk (fun j q1 q2 =>
        oR I xs ys 7 X.A.in1 vs ws its cV od oe h2 h4 vX vY (by rw[in1_units];omega) j q1 q2)
      rw[←l1,←qj (by omega)] at key;exact key _ _ _ _ (bB I q (by rw[dj];rfl))
    ·exact SeqAt.RcAt.lists_lengths p1.isList p2.isList (by simpa using hl) qk _ _ _ _ (bB I q (by rw[dj,kX (by omega)];rfl))
   |_=>cases hc
  |_=>cases e<;>cases hc
theorem QY(hu:X.A.units+64<cLine):nR X (compareOp .NotEq) (MT X.K true):=by
  intro pins s σ H x y v u Q I rx ry h;obtain⟨d,e,hd,he,hc,od,oe,q⟩:=h;have qk:X.A.units<cLine:=by omega
  cases d with
  |tup xs =>
   cases e with
   |tup ys =>
    obtain⟨a,vs,rfl,h1,h2⟩:=aI.mp hd;obtain⟨b,ws,rfl,h3,h4⟩:=aI.mp he;cases rx;cases ry;obtain⟨its,vX,p1,_⟩:=I.tuple (gw.of h1);obtain⟨cV,vY,p2,_⟩:=I.tuple (gw.of h3);rw[D.iN] at od oe;have key:=SeqAt.RcNeAt.tuples (A:=X.A) (e:=fun j=>dj (xs.getD j .non) (ys.getD j .non)) (show s.heap.IsTuple a its.toArray from p1) (show s.heap.IsTuple b cV.toArray from p2) qk (fun j q1 q2 =>
      oR I xs ys 7 X.A.in1 vs ws its cV od oe h2 h4 vX vY (by rw[in1_units];omega) j q1 q2)
    rw[yk (by rw[aJ h2,vX.length];simp) (by rw[aJ h4,vY.length];simp)] at key;exact key _ _ _ _ (bB I q (by rw[dj];rfl))
   |_=>cases hc
  |lst xs =>
   cases e with
   |lst ys =>
    obtain⟨a,vs,rfl,h1,h2⟩:=aK.mp hd;obtain⟨b,ws,rfl,h3,h4⟩:=aK.mp he;cases rx;cases ry;obtain⟨its,vX,p1,_⟩:=I.list h1;obtain⟨cV,vY,p2,_⟩:=I.list h3;rw[D.iN] at od oe;have l1:xs.length=its.toArray.size:=by rw[aJ h2,vX.length];simp
    have l2:ys.length=cV.toArray.size:=by rw[aJ h4,vY.length];simp
    by_cases hl:its.toArray.size=cV.toArray.size
    · have key:=SeqAt.RcNeAt.lists (A:=X.A) (e:=fun j=>dj (xs.getD j .non) (ys.getD j .non)) p1.isList p2.isList hl qk (fun j q1 q2 =>
        oR I xs ys 7 X.A.in1 vs ws its cV od oe h2 h4 vX vY (by rw[in1_units];omega) j q1 q2)
      rw[←l1,←qj (by omega)] at key;exact key _ _ _ _ (bB I q (by rw[dj];rfl))
    ·exact SeqAt.RcNeAt.lists_lengths p1.isList p2.isList (by simpa using hl) qk _ _ _ _ (bB I q (by rw[dj,kX (by omega)];rfl))
   |_=>cases hc
  |_=>cases e<;>cases hc
theorem Ak{x y:D}(h:Ct x y=true):∃a b,GA x=some a∧GA y=some b∧Ie a b=true:=by
  unfold Ct at h;split at h
  ·exact⟨_,_,by assumption,by assumption,h⟩
  ·cases h
theorem Pn{K:PySem.W.Frag}:EC K dF (fun x y H Q=>WN x y H Q∨MT K false x y H Q):=fun F H x y d v u Q b e h1 h2 k=>by
  unfold dF at e;by_cases hs:Ct x y=true
  ·rw[ay hs] at e;cases e;obtain⟨a,b,ha,hb,hc⟩:=Ak hs;obtain⟨rfl,_⟩:=ni h1 ha;obtain⟨rfl,_⟩:=ni h2 hb;refine .inl ⟨hc,k _ ?_⟩;rw[Jx ha hb hc];exact bu.mpr rfl
  · rw[az hs] at e;by_cases hc:(GH x y=true&&(x.iN 8&&y.iN 8))=true
    ·rw[ay hc] at e;cases e;simp only[oz,decide_eq_true_eq] at hc;exact .inr ⟨x,y,h1,h2,hc.1,hc.2.1,hc.2.2,k _ (bu.mpr rfl)⟩
    ·rw[az hc] at e;cases e
theorem Uv{K:PySem.W.Frag}:EC K lT (fun x y H Q=>ZP x y H Q∨MT K true x y H Q):=fun F H x y d v u Q b e h1 h2 k=>by
  unfold lT at e;by_cases hs:Ct x y=true
  ·rw[ay hs] at e;cases e;obtain⟨a,b,ha,hb,hc⟩:=Ak hs;obtain⟨rfl,_⟩:=ni h1 ha;obtain⟨rfl,_⟩:=ni h2 hb;refine .inl ⟨hc,k _ ?_⟩;rw[Jx ha hb hc];exact bu.mpr rfl
  · rw[az hs] at e;by_cases hc:(GH x y=true&&(x.iN 8&&y.iN 8))=true
    ·rw[ay hc] at e;cases e;simp only[oz,decide_eq_true_eq] at hc;exact .inr ⟨x,y,h1,h2,hc.1,hc.2.1,hc.2.2,k _ (bu.mpr rfl)⟩
    ·rw[az hc] at e;cases e
variable {z:Zc} {e a b:Expr} {f fa fb:EF} {fl:LF} {pos p:Pos}
theorem Jz(hu:X.A.units+64<cLine)(ha:DB X z a fa)(hb:DB X z b fb):DE X z (.Compare a [.Eq] [b] pos) (ae dF fa fb):=yf (Ig.or (Jy hu)) Pn ha hb (j3 _)
theorem jP(hu:X.A.units+64<cLine)(ha:DB X z a fa)(hb:DB X z b fb):DT X z (.Compare a [.Eq] [b] pos) (bF (ae dF fa fb)):=oM (Ig.or (Jy hu)) Pn ha hb (j3 _)
theorem uM(hu:X.A.units+64<cLine)(ha:DB X z a fa)(hb:DB X z b fb):DT X z (.Compare a [.NotEq] [b] pos) (bF (ae lT fa fb)):=oM (Tv.or (QY hu)) Uv ha hb (j3 _)
def LZ:D→Option String
  |.non=>some "NoneType"
  |.bl _=>some "bool"
  |.int _=>some "int"
  |.str _=>some "str"
  |.tup _=>some "tuple"
  |.lst _=>some "list"
  |.obj _=>none
  |.exc _=>none
def JA(T t:String):Bool:=t==T||(T=="int"&&t=="bool")
def mK(T:String)(f:EF):EF:=fun η=>(f η).bind fun d=>(LZ d).map fun t=>.bl (JA T t)
theorem QZ{K:PySem.W.Frag}{d:D}{t:String}(h:Den K H d v)(e:LZ d=some t):oF K H v (.type t):=by
  cases d with
  |non=>cases e;rw[bI.mp h];exact .non
  |bl b=>cases e;rw[bu.mp h];exact .bl b
  |int b=>cases e;rw[aD.mp h];exact .int b
  |str b=>cases e;rw[aQ.mp h];exact .str b
  |tup xs=>cases e;obtain⟨a,vs,rfl,h1,_⟩:=aI.mp h;exact .tup h1
  |lst xs =>
   cases e;obtain⟨a,vs,rfl,h1,_⟩:=aK.mp h;rcases h1 with(h1|⟨o,h1⟩)|⟨o,its,n,hk,hc,_⟩
   ·exact .lst h1
   ·exact .gL h1
   ·exact .kl hk hc
  |obj C=>cases e
  |exc C=>cases e
theorem Al(hk:∀(d:D) (t:String),LZ d=some t→kitOne X.K (.type t) (.type T)=some (JA T t))(hv:bootBuiltins x=some (.type T))(hg:Gl X "isinstance")(hm:X.mg "isinstance"=none)(JB:Gl X x)(wA:X.mg x=none)(ha:DB X z e f)(hs:starEach [e,.Name x p] X.env=(false,eval e X.env)::starEach [.Name x p] X.env)(ku:starEach [.Name x p] X.env=(false,eval (.Name x p) X.env)::starEach [] X.env)(m8:(backTo pos (starEach [.Name x p] X.env)).any (·.1)=false)(hn:x≠"__name__")(iE:(x==("__debug__":Str))=false):DE X z (.Call (.Name "isinstance" p2) [e,.Name x p] [] pos) (mK T f) :=
  PE.weak (zL zZ hg hm wu (aW ha (aW (L6 (v:=.ty T) JB wA hv rfl hn iE) cN ku) hs) (by decide) (by decide) hs m8) fun σ H Q ⟨η,F,d,r,e,k⟩=>by
  unfold mK at e;obtain⟨d',h1,h2⟩:=cR.mp e;obtain⟨t,h3,h4⟩:=iB.mp h2;subst h4;exact⟨η,F,d',r,h1,fun v H' F' g q=>⟨v,T,.type t,JA T t,rfl,QZ q h3,hk d' t h3,k _ H' F' g (bu.mpr rfl)⟩⟩
theorem kit_tuple{K:PySem.W.Frag}:∀(d:D) (t:String),LZ d=some t→kitOne K (.type t) (.type "tuple")=some (JA "tuple" t):=fun d t h=>by cases d<;>cases h<;>rfl
theorem JC{K:PySem.W.Frag}:∀(d:D) (t:String),LZ d=some t→kitOne K (.type t) (.type "list")=some (JA "list" t):=fun d t h=>by cases d<;>cases h<;>rfl
theorem JD{K:PySem.W.Frag}:∀(d:D) (t:String),LZ d=some t→kitOne K (.type t) (.type "bool")=some (JA "bool" t):=fun d t h=>by cases d<;>cases h<;>rfl
theorem MV{K:PySem.W.Frag}:∀(d:D) (t:String),LZ d=some t→kitOne K (.type t) (.type "int")=some (JA "int" t):=fun d t h=>by cases d<;>cases h<;>rfl
theorem MX{K:PySem.W.Frag}:∀(d:D) (t:String),LZ d=some t→kitOne K (.type t) (.type "str")=some (JA "str" t):=fun d t h=>by cases d<;>cases h<;>rfl
theorem mL(hg:Gl X "isinstance")(hm:X.mg "isinstance"=none)(wA:X.mg "tuple"=none)(ha:DB X z e f)(JB:Gl X "tuple":=by rfl)(hs:starEach [e,.Name "tuple" p] X.env=(false,eval e X.env)::starEach [.Name "tuple" p] X.env:=by rfl):DE X z (.Call (.Name "isinstance" p2) [e,.Name "tuple" p] [] pos) (mK "tuple" f) :=
  Al kit_tuple zY hg hm JB wA ha hs rfl rfl (by decide) (by decide)
theorem oS(hg:Gl X "isinstance")(hm:X.mg "isinstance"=none)(wA:X.mg "list"=none)(ha:DB X z e f)(JB:Gl X "list":=by rfl)(hs:starEach [e,.Name "list" p] X.env=(false,eval e X.env)::starEach [.Name "list" p] X.env:=by rfl):DE X z (.Call (.Name "isinstance" p2) [e,.Name "list" p] [] pos) (mK "list" f) :=
  Al JC x8 hg hm JB wA ha hs rfl rfl (by decide) (by decide)
theorem jl(hg:Gl X "isinstance")(hm:X.mg "isinstance"=none)(wA:X.mg "bool"=none)(ha:DB X z e f)(JB:Gl X "bool":=by rfl)(hs:starEach [e,.Name "bool" p] X.env=(false,eval e X.env)::starEach [.Name "bool" p] X.env:=by rfl):DE X z (.Call (.Name "isinstance" p2) [e,.Name "bool" p] [] pos) (mK "bool" f) :=
  Al JD Mz hg hm JB wA ha hs rfl rfl (by decide) (by decide)
theorem nu(hg:Gl X "isinstance")(hm:X.mg "isinstance"=none)(wA:X.mg "int"=none)(ha:DB X z e f)(JB:Gl X "int":=by rfl)(hs:starEach [e,.Name "int" p] X.env=(false,eval e X.env)::starEach [.Name "int" p] X.env:=by rfl):DE X z (.Call (.Name "isinstance" p2) [e,.Name "int" p] [] pos) (mK "int" f) :=
  Al MV QJ hg hm JB wA ha hs rfl rfl (by decide) (by decide)
theorem sd(hg:Gl X "isinstance")(hm:X.mg "isinstance"=none)(wA:X.mg "str"=none)(ha:DB X z e f)(JB:Gl X "str":=by rfl)(hs:starEach [e,.Name "str" p] X.env=(false,eval e X.env)::starEach [.Name "str" p] X.env:=by rfl):DE X z (.Call (.Name "isinstance" p2) [e,.Name "str" p] [] pos) (mK "str" f) :=
  Al MX QK hg hm JB wA ha hs rfl rfl (by decide) (by decide)
def mM(p:Int×bK):D:=.tup [.int p.1,.tup (p.2.map D.int)]
def JF(a b:Int×bK):Bool:=!kB b a
theorem kY(a:Int×bK):kB a a=false:=by unfold kB;rw[ay rfl];exact kO _
def mN(ps:By):By:=ps.mergeSort JF
theorem kZ(ps:By):(mN ps).Perm ps:=List.mergeSort_perm ps JF
theorem MY(a b:Int×bK):(JF a b||JF b a)=true:=by
  unfold JF;cases h:kB b a with
  |false=>rfl
  |true =>
   cases h2:kB a b with
   |false=>rfl
   |true=>have:=rN h h2;rw[kY] at this;cases this
theorem Q0(a b c:Int×bK)(h1:JF a b=true)(h2:JF b c=true):JF a c=true:=by
  unfold JF at *;simp only[Bool.not_eq_true'] at *;cases h:kB c a with
  |false=>rfl
  |true =>
   by_cases e1:a=b
   ·subst e1;rw[h] at h2;cases h2
   ·have q1:=tT (a:=b) (b:=a) (fun z=>e1 z.symm) h1;have q2:=rN h q1;rw[h2] at q2;cases q2
theorem Am{ps:By}(hd:ps.Nodup):(mN ps).Pairwise (fun a b=>kB a b=true):=by
  have h:=List.pairwise_mergeSort (le:=JF) Q0 MY ps;have hn:(mN ps).Nodup:=(kZ ps).nodup_iff.mpr hd;refine List.Pairwise.imp₂ (fun a b h1 h2=>?_) h hn;have Ce:kB b a=false:=by unfold JF at h1;simpa using h1
  exact tT (fun z=>h2 z.symm) Ce
theorem JG{ps qs:By}(hd:ps.Nodup)(h:qs.Perm ps)(hp:qs.Pairwise (fun a b=>kB a b=true)):mN ps=qs :=
  List.Perm.eq_of_pairwise (le:=fun a b=>kB a b=true) (fun a b _ _ h1 h2=>by have:=rN h1 h2;rw[kY] at this;cases this) (Am hd) hp ((kZ ps).trans h.symm)
theorem JH{K:PySem.W.Frag}{p:Int×bK}:Den K F (mM p) v↔pairAt F v p:=by
  unfold mM pairAt;constructor
  ·intro h;obtain⟨a,vs,rfl,h1,h2⟩:=aI.mp h;obtain⟨v1,r,rfl,h3,h4⟩:=av.mp h2;obtain⟨v2,rfl,h5⟩:=uE h4;rw[aD.mp h3] at h1;obtain⟨q,ws,rfl,h6,h7⟩:=aI.mp h5;rw[jh h7] at h6;exact⟨a,q,rfl,h1,h6⟩
  ·rintro⟨a,q,rfl,h1,h2⟩;exact aI.mpr ⟨a,_,rfl,h1,av.mpr ⟨_,_,rfl,aD.mpr rfl,il (aI.mpr ⟨q,_,rfl,h2,i6 _⟩)⟩⟩
end
section
variable {X:Cx} {z:Zc} {e a b:Expr} {f fa fb fk fv:EF} {fl:LF} {pos p:Pos} {g:SF} {st:Stmt}
theorem GJ{K:PySem.W.Frag}:∀D σ H,vS K z (cy i (eL fl)) D σ H→xO (vO K z fl) (nQ i) D σ H:=fun D σ H ⟨η,F,o,r,e,k⟩=>by unfold cy eL at e;obtain⟨d,e1,rfl⟩:=iB.mp e;obtain⟨ds,e2,rfl⟩:=iB.mp e1;refine⟨η,F,ds,r,e2,fun p vs H' F' gr h1 h2 h3 h4=>?_⟩;have hs:bH F' (upd F' p (.lst vs)):=fV h2 _;have g2:=gr.share gr.base h3 h1;exact k _ H' _ ((r.grow g2).set i rfl (aK.mpr ⟨p,vs,rfl,eW.of ax,bp hs _ _ h4⟩)) g2.cz
theorem JJ{IV:Pos}{m:Bool}{elt iter:Expr}{ifs:List Expr}{tgs:dC}{scope:Scope}{l:LF}{b:BF}{t:TF}{f:EF}(hc:X.calm=true)(hN:X.N.Nodup)(B:fJ X tgs fi scope)(hfi:fi.Nodup)(hit:DI X z tg iter m l)(hg:∀C ex s H,DG (iO X tgs fi scope C ex s H) z m tg b)(ht:∀C ex s H,MS (iO X tgs fi scope C ex s H) z ifs t)(he:∀C ex s H,DE (iO X tgs fi scope C ex s H) z elt f)(hi:X.N[i]?=some x:=by rfl)(hl:X.env.scope.names.lookup x=some .local:=by rfl)(IW:swapsWith (.ListComp elt [⟨tg,iter,ifs,0⟩] scope pos) (some (.Name x pos')) IV.line X.env=pure true:=by rfl)(hs:∀x,foldedSetIterable iter X.env x=pure x:=by intro _;rfl):DS X z (.Assign [.Name x pos'] (.ListComp elt [⟨tg,iter,ifs,0⟩] scope pos) IV) (cy i (eL (fM tgs.length fi l b t f))) :=
  PS.weak (B8 (g:=vG X.K z m b) (tt:=vT X.K z t) (te:=vE X.K z f) hc hN hi hl B hit (fun C ex s H=>hg C ex s H) (fun C ex s H=>ht C ex s H) (fun C ex s H=>he C ex s H) IW hs) fun D σ H h=>xk hfi σ H _ (GJ D σ H h)
def keyOf:D→Option Key
  |.int i=>some (.inl i)
  |.str x=>some (.inr x)
  |_=>none
def keysOf:eZ→Option (List Key)
  |[]=>some []
  |d::ds=>(keyOf d).bind fun k=>(keysOf ds).map (k::·)
def Cu:D→Option (List Key)
  |.tup ds=>keysOf ds
  |_=>none
theorem ql{K:PySem.W.Frag}{F:Hp}:∀{ds:eZ} {vs:List V} {ks:List Key},bz K F ds vs→keysOf ds=some ks→vs=ks.map kV
  |[],vs,ks,h,e=>by cases e;exact aO.mp h
  |d::ds,vs,ks,h,e=>by
   obtain⟨k,h1,e⟩:=cR.mp e;obtain⟨r,h2,rfl⟩:=iB.mp e;obtain⟨v,r',rfl,h3,h4⟩:=av.mp h;rw[ql h4 h2];have:v=kV k:=by
     cases d with
     |int i=>cases h1;exact aD.mp h3
     |str i=>cases h1;exact aQ.mp h3
     |_=>cases h1
   rw[this];rfl
theorem sU:∀ns:bK,keysOf (ns.map D.int)=some (ns.map Sum.inl)
  |[]=>rfl
  |n::ns=>by show(some (Sum.inl n:Key)).bind _=_;simp[sU ns]
def Q5:Key→D
  |.inl i=>.int i
  |.inr x=>.str x
theorem qm{K:PySem.W.Frag}{F:Hp}:∀(ks:List Key),bz K F (ks.map Q5) (ks.map kV)
  |[]=>aO.mpr rfl
  |.inl i::ks=>av.mpr ⟨_,_,rfl,aD.mpr rfl,qm ks⟩
  |.inr x::ks=>av.mpr ⟨_,_,rfl,aQ.mpr rfl,qm ks⟩
def oT{κ:Type}[DecidableEq κ](ao:List (κ×D))(k:κ):Option D:=(ao.find? fun kv=>decide (kv.1=k)).map (·.2)
def putD{κ:Type}[DecidableEq κ](ao:List (κ×D))(k:κ)(v:D):List (κ×D) :=
  if (ao.any fun kv=>decide (kv.1=k))=true then ao.map fun kv=>if kv.1=k then(kv.1,v) else kv else ao++[(k,v)]
section
variable {κ:Type} [DecidableEq κ] {K:PySem.W.Frag} {F:Hp}
theorem qo:∀{ao:List (κ×D)} {ws:List (κ×V)} (k:κ),bV K F ao ws→(∀d,oT ao k=some d→∃v,nM ws k=some v∧Den K F d v)∧(oT ao k=none→nM ws k=none)
  |[],_,k,.nil=>⟨fun d h=>(by exact absurd h (by simp[oT])),fun _=>rfl⟩
  |p::ao,q::ws,k,.cons h t=>by
   obtain⟨ih1,ih2⟩:=qo k t;by_cases e:p.1=k
   · have e1:oT (p::ao) k=some p.2:=by simp[oT,rm,e]
     have e2:nM (q::ws) k=some q.2:=pR (by rw[←h.1];exact e);rw[e1,e2];exact⟨fun d hd=>⟨q.2,rfl,by cases hd;exact h.2⟩,fun z=>by cases z⟩
   · have e1:oT (p::ao) k=oT ao k:=by simp[oT,rm,e]
     have e2:nM (q::ws) k=nM ws k:=pS (by rw[←h.1];exact e);rw[e1,e2];exact⟨ih1,ih2⟩
theorem EV:∀{ao:List (κ×D)} {ws:List (κ×V)} (k:κ),bV K F ao ws→(ao.any fun kv=>decide (kv.1=k))=ws.any fun kv=>decide (kv.1=k)
  |[],_,k,.nil=>rfl
  |p::ao,q::ws,k,.cons h t=>by rw[List.any_cons,List.any_cons,EV k t,h.1]
theorem An{d:D}{v:V}(hd:Den K F d v):∀{ao:List (κ×D)} {ws:List (κ×V)} (k:κ),bV K F ao ws→bV K F (ao.map fun kv=>if kv.1=k then(kv.1,d) else kv) (ws.map fun kv=>if kv.1=k then(kv.1,v) else kv)
  |[],_,k,.nil=>.nil
  |p::ao,q::ws,k,.cons h t=>by
   refine .cons ?_ (An hd k t);dsimp only;by_cases e:p.1=k
   · have e2:q.1=k:=by rw[←h.1];exact e
     rw[ay e,ay e2];exact⟨h.1,hd⟩
   · have e2:¬ q.1=k:=by rw[←h.1];exact e
     rw[az e,az e2];exact h
theorem Ao{d:D}{v:V}(hd:Den K F d v):∀{ao:List (κ×D)} {ws:List (κ×V)} (k:κ),bV K F ao ws→bV K F (ao++[(k,d)]) (ws++[(k,v)])
  |[],_,k,.nil=>.cons ⟨rfl,hd⟩ .nil
  |p::ao,q::ws,k,.cons h t=>.cons h (Ao hd k t)
theorem Ap{ao:List (κ×D)}{ws:List (κ×V)}{d:D}(k:κ)(h:bV K F ao ws)(hd:Den K F d v):bV K F (putD ao k d) (putK ws k v):=by
  unfold putD putK;rw[EV k h];by_cases e:(ws.any fun kv=>decide (kv.1=k))=true
  ·rw[ay e,ay e];exact An hd k h
  ·rw[az e,az e];exact Ao hd k h
theorem ja{ao:List (κ×D)}{ws:List (κ×V)}(h:bV K F ao ws):ao.length=ws.length:=pJ h
end
def dT(i:Nat)(η:aY):Option (List (List Key×D)):=match η[i]? with
  |some (some (.ot ao))=>some ao
  |some (some (.ft ao))=>some ao
  |_=>none
theorem JK{K:PySem.W.Frag}{ao:List (List Key×D)}(r:Rel K z F H σ η)(e:dT i η=some ao):∃p ws,σ[i]?=some (some (.ref p))∧Rd H p (.dT ws)∧bV K F ao ws:=by
  unfold dT at e;split at e
  ·rename_i iq h;cases e;obtain⟨p,o,h1,h2,h3,h4,ws,rfl,h5⟩:=r.ownAt h rfl;exact⟨p,ws,h1,.inl h4,h5⟩
  ·rename_i iq h;cases e;obtain⟨v,h1,p,ob,ws,rfl,h4,h5⟩:=r.at_ i _ h;exact⟨p,ws,h1,.inr ⟨ob,r.base.sub _ _ h4⟩,h5⟩
  ·cases e
theorem yl(s:bH H H'){p:Addr}{u:HO}(h:Rd H p u):Rd H' p u:=by
  rcases h with h|⟨o,h⟩
  ·exact .inl (s _ _ h)
  ·exact .inr ⟨o,s _ _ h⟩
theorem ym{K:PySem.W.Frag}{F:Hp}{p:Addr}{ws:List (List Key×V)}{d:D}{ks:List Key}(h:Rd H p (.dT ws))(hd:Den K H d y)(hk:Cu d=some ks):Gk H p y (nM ws ks):=by
  cases d with
  |tup ds=>obtain⟨a,vs,rfl,h1,h2⟩:=aI.mp hd;rw[ql h2 hk] at h1;exact .inr ⟨ws,ks,a,h,rfl,h1,rfl⟩
  |_=>cases hk
def Cv(i:Nat):SF:=fun η=>some (.nx (η.set i (some (.ot []))))
theorem JL{dp:Pos}(hN:X.N.Nodup)(hi:X.N[i]?=some x:=by rfl)(hx:Loc X.env.scope x:=by first|exact Or.inl rfl|exact Or.inr rfl)(hs:swapsWith (.Dict [] [] dp) (some (.Name x pos')) pos.line X.env=pure false:=by rfl)(hf:X.fn x=true∨X.env.scope.names.lookup x=some .local:=by first|exact .inl rfl|exact .inr rfl|assumption):DS X z (.Assign [.Name x pos'] (.Dict [] [] dp) pos) (Cv i) :=
  PS.weak (je hN hi hx pT hs hf) fun D σ H ⟨η,F,o,r,e,k⟩=>by
  cases e;intro p hp;have g1:=aG.own r.base hp (.dT []) (iC _) rfl;exact k _ _ F (r.yd g1 i (sl:=.ot []) (p:=p) ⟨p,_,rfl,r.mem.ent.free hp,r.base.sub.free hp,ax,[],rfl,.nil⟩ rfl hp) g1.cz
def yn(i:Nat)(fk fd:EF):EF:=fun η=>(dT i η).bind fun ao=>(fk η).bind fun k=>(fd η).bind fun d=>(Cu k).map fun ks=>(oT ao ks).getD d
theorem JM(hu:X.A.units+1<cLine)(i:Nat){ek ed:Expr}{fd:EF}(hk:DB X z ek fk)(hd:DE X z ed fd)(hN:X.N[i]?=some x:=by rfl)(hv:pL X.env.scope x:=by first|exact Or.inl rfl|exact Or.inr (Or.inl rfl)|exact Or.inr (Or.inr rfl))(m:M2 X (.Name x px) "get" apos ek ed aX:=by exact⟨rfl,rfl,rfl,rfl⟩)(iE:(x==("__debug__":Str))=false:=by decide)(dR:(x==("__classdict__":Str))=false:=by decide):DE X z (.Call (.Attribute (.Name x px) "get" apos) [ek,ed] [] aX) (yn i fk fd) :=
  PE.weak (zT hu (cM hN hv iE dR) hk hd m) fun σ H Q ⟨η,F,d,r,e,k⟩=>by
  unfold yn at e;obtain⟨ao,h1,e⟩:=cR.mp e;obtain⟨kd,h2,e⟩:=cR.mp e;obtain⟨d0,h3,e⟩:=cR.mp e;obtain⟨ks,h4,rfl⟩:=iB.mp e;obtain⟨p,ws,a1,a2,a3⟩:=JK r h1;refine⟨_,a1,p,rfl,.inr ⟨ws,a2⟩,η,F,kd,r,h2,fun y H1 F1 g1 q1=>⟨η,F1,d0,r.grow g1,h3,fun w H2 F2 g2 q2=>?_⟩⟩;have uH:=g1.trans g2;refine⟨_,ym (F:=F2) (yl uH.ent a2) (aL g2.ent _ _ q1) h4,k _ H2 F2 uH ?_⟩;obtain⟨b1,b2⟩:=qo ks (a3.mono uH.cz);cases hv:oT ao ks with
  |none=>rw[b2 hv];exact q2
  |some d'=>obtain⟨v,c1,c2⟩:=b1 d' hv;rw[c1];exact c2
def Aq(i:Nat)(fk:EF):EF:=fun η=>(dT i η).bind fun ao=>(fk η).bind fun k=>(Cu k).bind fun ks=>oT ao ks
theorem MZ(hu:X.A.units+1<cLine)(i:Nat){ek:Expr}(hk:DB X z ek fk)(hN:X.N[i]?=some x:=by rfl)(hv:pL X.env.scope x:=by first|exact Or.inl rfl|exact Or.inr (Or.inl rfl)|exact Or.inr (Or.inr rfl))(hs:Qt ek:=by intro _ _;rfl)(iE:(x==("__debug__":Str))=false:=by decide)(dR:(x==("__classdict__":Str))=false:=by decide):DE X z (.Subscript (.Name x px) ek pos) (Aq i fk) :=
  PE.weak (Mt hu (cM hN hv iE dR) hk hs) fun σ H Q ⟨η,F,d,r,e,k⟩=>by
  unfold Aq at e;obtain⟨ao,h1,e⟩:=cR.mp e;obtain⟨kd,h2,e⟩:=cR.mp e;obtain⟨ks,h4,e⟩:=cR.mp e;obtain⟨p,ws,a1,a2,a3⟩:=JK r h1;refine⟨_,a1,η,F,kd,r,h2,fun y H1 F1 g1 q1=>?_⟩;obtain⟨v,c1,c2⟩:=(qo ks (a3.mono g1.cz)).1 d e;refine⟨p,v,rfl,?_,k _ H1 F1 g1 c2⟩;rw[←c1];exact ym (F:=F1) (yl g1.ent a2) q1 h4
def yo(i:Nat)(fk fv:EF):SF:=fun η=>(fv η).bind fun v=>(fk η).bind fun k=>(Cu k).bind fun ks=>match η[i]? with
  |some (some (.ot ao))=>if ao.length<10000 then some (.nx (η.set i (some (.ot (putD ao ks v))))) else none
  |_=>none
theorem JN(hu:X.A.units+1<cLine)(i:Nat){ek ev:Expr}(hk:DB X z ek fk)(hw:DE X z ev fv)(hN:X.N[i]?=some x:=by rfl)(hv:pL X.env.scope x:=by first|exact Or.inl rfl|exact Or.inr (Or.inl rfl)|exact Or.inr (Or.inr rfl))(hs:swapsWith ev (some (.Subscript (.Name x px) ek pos')) pos.line X.env=pure false:=by rfl)(iE:(x==("__debug__":Str))=false:=by decide)(dR:(x==("__classdict__":Str))=false:=by decide):DS X z (.Assign [.Subscript (.Name x px) ek pos'] ev pos) (yo i fk fv) :=
  PS.weak (Ej hu (cM hN hv iE dR) hk hw hs) fun D σ H ⟨η,F,o,r,e,k⟩=>by
  unfold yo at e;obtain⟨dv,h1,e⟩:=cR.mp e;obtain⟨kd,h2,e⟩:=cR.mp e;obtain⟨ks,h3,e⟩:=cR.mp e;split at e
  · rename_i ao h;by_cases hl:ao.length<10000
    · rw[ay hl] at e;cases e;refine⟨η,F,dv,r,h1,fun v H1 F1 g1 q1=>?_⟩;have r1:=r.grow g1;obtain⟨p,o,a1,a2,a3,a4,ws,rfl,a5⟩:=r1.ownAt h rfl;refine⟨_,a1,η,F1,kd,r1,h2,fun y H2 F2 g2 q2=>?_⟩;have r2:=r1.grow g2;have V5:=g2.ent _ _ a4;have Xu:ws.length<10000:=by rw[←ja a5];exact hl
      cases kd with
      |tup ds=>obtain⟨a,vs,rfl,b1,b2⟩:=aI.mp q2;rw[ql b2 h3] at b1;refine⟨p,_,rfl,Gn.t V5 b1 (jX Xu (Ci (bG _))),?_⟩;refine k _ _ F2 (r2.write h rfl a1 ⟨putK ws ks v,rfl,Ap ks (a5.mono g2.cz) (aL g2.cz _ _ q1)⟩ ?_) (g1.cz.trans g2.cz);have:=jK ws ks v;exact gy this (Ci (by omega))
      |_=>cases h3
    ·rw[az hl] at e;cases e
  ·cases e
def M0(i:Nat)(fk fv:EF):SF:=fun η=>(fv η).bind fun v=>(fk η).bind fun k=>match η[i]?,k with
  |some (some (.ol ds)),.int n=>(LY ds.length n).map fun j=>.nx (η.set i (some (.ol (ds.set j v))))
  |_,_=>none
theorem Q6(i:Nat){ek ev:Expr}(hk:DB X z ek fk)(hw:DE X z ev fv)(hN:X.N[i]?=some x:=by rfl)(hv:pL X.env.scope x:=by first|exact Or.inl rfl|exact Or.inr (Or.inl rfl)|exact Or.inr (Or.inr rfl))(hs:swapsWithSole [.Subscript (.Name x px) ek pos'] ev pos.line X.env=pure false:=by rfl)(IW:swappedStores [.Subscript (.Name x px) ek pos'] ev X.env=pure none:=by rfl)(h1:(assignEach [.Subscript (.Name x px) ek pos'] X.env).map (·.2)=[assign (.Subscript (.Name x px) ek pos') X.env]:=by rfl)(ha:∀v,assign (.Subscript (.Name x px) ek pos') X.env v=(do
      let ov ←holding [v] (eval (.Name x px) X.env)
      let iv ←holding [v,ov] (eval ek X.env)
      standAt pos'
      holding [v,ov,iv] (setItem ov iv v)
      release [v,ov,iv] []):=by intro _;rfl)(iE:(x==("__debug__":Str))=false:=by decide)(dR:(x==("__classdict__":Str))=false:=by decide):DS X z (.Assign [.Subscript (.Name x px) ek pos'] ev pos) (M0 i fk fv) :=
  PS.weak (P8 hw (P7 (cM hN hv iE dR) hk set_list ha) hs IW h1) fun D σ H ⟨η,F,o,r,e,k⟩=>by
  unfold M0 at e;obtain⟨dv,h1,e⟩:=cR.mp e;obtain⟨kd,h2,e⟩:=cR.mp e;split at e
  ·rename_i ds n h;obtain⟨j,h3,rfl⟩:=iB.mp e;refine⟨η,F,dv,r,h1,fun v H1 F1 g1 q1=>?_⟩;have r1:=r.grow g1;obtain⟨p,o,a1,a2,a3,a4,ws,rfl,a5⟩:=r1.ownAt h rfl;refine⟨_,a1,η,F1,_,r1,h2,fun y H2 F2 g2 q2=>?_⟩;have r2:=r1.grow g2;have V5:=g2.ent _ _ a4;refine⟨p,ws,n,j,rfl,aD.mp q2,V5,by rw[←aJ a5];exact h3,?_⟩;refine k _ _ F2 (r2.write h rfl a1 ⟨ws.set j v,rfl,Af j (bp g2.cz _ _ a5) (aL g2.cz _ _ q1)⟩ ?_) (g1.cz.trans g2.cz);show(ws.set j v).length≤sizeLine;rw[List.length_set];exact g2.base.sR _ _ V5
  ·cases e
end
end DL
namespace DL
open PySem L2
theorem Xv{K:PySem.W.Frag}{base:Heap}{f:Addr}{ps:dC}:cD P w K mg base mz k f fd ps (gG K ms (fun _=>none)) where
  len:=fun vs H Q E h=>by obtain⟨F,ds,r,_,_,e,_⟩:=h;cases e
  run:=fun A outer s H args us vs Q E hr he hb hv hs=>by obtain⟨F,ds,r,_,_,e,_⟩:=hs;cases e
theorem eA(i j:Int):fZ (.int i) (.int j)=some (.int (i+j)):=rfl
theorem Cw(i j:Int):GC (.int i) (.int j)=some (.int (i-j)):=rfl
theorem oU{i j:Int}(h:mulC i j=true):wz (.int i) (.int j)=some (.int (i*j)):=ay h
theorem div_ii{i j:Int}(h:divC i j=true):Ai (.int i) (.int j)=some (.int (i / j)):=ay h
theorem cj{i j:Int}(h:iw i j=true):cL (.int i) (.int j)=some (.int (i%j)):=ay h
theorem Q7{i j:Int}(h:powC i j=true):ML (.int i) (.int j)=some (.int (i^j.toNat)):=ay h
theorem jQ(i j:Int):yh (.int i) (.int j)=some (.bl (decide (i<j))):=rfl
theorem lL(i j:Int):HC (.int i) (.int j)=some (.bl (decide (j<i))):=rfl
theorem Uw(i j:Int):Xp (.int i) (.int j)=some (.bl (decide (j≤i))):=rfl
theorem uN(ds:eZ)(i:Int):iQ (.lst ds) (.int i)=rJ ds i:=rfl
theorem yp{i j:Int}(h1:-(2^64)<j)(h2:j<2^64):mulC i j=true:=by unfold mulC;exact mh (.inr ⟨h1,h2⟩)
theorem Cy{i j:Int}(h1:-(2^64)<i)(h2:i<2^64):mulC i j=true:=by unfold mulC;exact mh (.inl ⟨h1,h2⟩)
theorem Cz{i j:Int}(h:0<j):iw i j=true:=by unfold iw;exact mh h
theorem M3{n:Int}{ms:bK}{S:D}(h:fK S=some (ms.map D.int)):inD false (.int n) S=some (.bl (ms.contains n)):=by unfold inD;rw[h];simp only[GA,cf,xj,eD];rw[Ad];rfl
theorem aC{g1 g2:SF}{η':aY}(h:g1 η=some (.nx η')):bj g1 g2 η=g2 η':=by unfold bj;rw[h];rfl
theorem mO{g1 g2:SF}{r:Slot}(h:g1 η=some (.rt r)):bj g1 g2 η=some (.rt r):=by unfold bj;rw[h];rfl
theorem bW{f:EF}{d:D}(h:f η=some d):cy i f η=some (.nx (η.set i (some (.sh d)))):=by unfold cy;rw[h];rfl
theorem ny{f:LF}{d:eZ}(h:f η=some d):nY i f η=some (.nx (η.set i (some (.ol d)))):=by unfold nY;rw[h];rfl
theorem oV{f:EF}{d:D}(h:f η=some d):dZ f η=some (.rt (.sh d)):=by unfold dZ;rw[h];rfl
theorem EW{f:LF}{d:eZ}(h:f η=some d):uI f η=some (.rt (.ol d)):=by unfold uI;rw[h];rfl
theorem lg{t:TF}{g1 g2:SF}(h:t η=some true):iM t g1 g2 η=g1 η:=by unfold iM;rw[h];rfl
theorem ef{t:TF}{g1 g2:SF}(h:t η=some false):iM t g1 g2 η=g2 η:=by unfold iM;rw[h];rfl
theorem gd{l:LF}{b:BF}{g:SF}(h:l η=some ds):mJ l b g η=j8 b g ds η:=by unfold mJ;rw[h];rfl
theorem jR{g:SF}{r:Slot}(h:g (iG n ms ds)=some (.rt r)):pD n ms g ds=some r:=by unfold pD;rw[h]
theorem EX(ns:bK)(lo hi:Option Int):cutD (ns.map D.int) lo hi=((ns.drop (HT.rh ns.length 0 lo)).take (HT.rh ns.length ns.length hi-HT.rh ns.length 0 lo)).map D.int:=by unfold cutD;rw[fG,←List.map_drop,←List.map_take]
theorem jm{b:BF}{g:SF}(P:Nat→aY→Prop):∀{ds:eZ} {η:aY} (n:Nat),P n η→(∀(i:Nat) d η,ds[i]?=some d→P (n+i) η→∃η1 η2,b d η=some η1∧(g η1=some (.nx η2)∨g η1=some (.ct η2))∧P (n+i+1) η2)→∃η',j8 b g ds η=some (.nx η')∧P (n+ds.length) η'
  |[],η,n,h0,_=>⟨η,rfl,h0⟩
  |d::ds,η,n,h0,hs=>by
   obtain⟨η1,η2,h1,h2,h3⟩:=hs 0 d η rfl h0;obtain⟨η',h4,h5⟩:=jm P (ds:=ds) (η:=η2) (n+1) h3 (fun i d η hd hp=>by
     have e:n+1+i=n+(i+1):=by omega
     rw[e] at hp⊢;exact hs (i+1) d η (by simpa using hd) hp)
   refine⟨η',?_,by rw[eT,show n+(ds.length+1)=n+1+ds.length by omega];exact h5⟩;unfold j8;rw[h1];rcases h2 with h2|h2<;>(simp only[cf,h2];exact h4)
theorem kC{α β:Type}{b:BF}{g:SF}(q:α→D)(E:β→aY→Prop)(step:β→α→β):∀{xs:List α} {η:aY} (s:β),E s η→(∀x∈xs,∀s η,E s η→∃η1 η2,b (q x) η=some η1∧g η1=some (.nx η2)∧E (step s x) η2)→∃η',j8 b g (xs.map q) η=some (.nx η')∧E (xs.foldl step s) η'
  |[],η,s,h0,_=>⟨η,rfl,h0⟩
  |x::xs,η,s,h0,hs=>by obtain⟨η1,η2,h1,h2,h3⟩:=hs x eR s η h0;obtain⟨η',h4,h5⟩:=kC q E step (xs:=xs) (η:=η2) (step s x) h3 (fun y hy=>hs y (et _ hy));refine⟨η',?_,h5⟩;rw[cB];unfold j8;rw[h1];simp only[cf,h2];exact h4
theorem lh{α β:Type}{b:BF}{g:SF}(q:α→D)(E:Nat→β→aY→Prop)(step:β→α→β):∀{xs:List α} {η:aY} (n:Nat) (s:β),E n s η→(∀(i:Nat) x s η,xs[i]?=some x→E (n+i) s η→∃η1 η2,b (q x) η=some η1∧g η1=some (.nx η2)∧E (n+i+1) (step s x) η2)→∃η',j8 b g (xs.map q) η=some (.nx η')∧E (n+xs.length) (xs.foldl step s) η'
  |[],η,n,s,h0,_=>⟨η,rfl,h0⟩
  |x::xs,η,n,s,h0,hs=>by
   obtain⟨η1,η2,h1,h2,h3⟩:=hs 0 x s η rfl h0;obtain⟨η',h4,h5⟩:=lh q E step (xs:=xs) (η:=η2) (n+1) (step s x) h3 (fun i y s η hy he=>by
     have e:n+1+i=n+(i+1):=by omega
     rw[e] at he⊢;exact hs (i+1) y s η (by simpa using hy) he)
   refine⟨η',?_,by rw[eT,List.foldl_cons,show n+(xs.length+1)=n+1+xs.length by omega];exact h5⟩;rw[cB];unfold j8;rw[h1];simp only[cf,h2];exact h4
theorem nz{α:Type}{b:BF}{t:TF}{f:EF}{η:aY}(q:α→D)(p:α→Bool)(h:α→D):∀{xs:List α},(∀x∈xs,∃η1,b (q x) η=some η1∧t η1=some (p x)∧(p x=true→f η1=some (h x)))→fL b t f (xs.map q) η=some ((xs.filter p).map h)
  |[],_=>rfl
  |x::xs,hs=>by
   obtain⟨η1,h1,h2,h3⟩:=hs x eR;have ih:=nz q p h (xs:=xs) (fun y hy=>hs y (et _ hy));rw[cB];unfold fL;rw[h1];simp only[cf,h2];cases hp:p x with
   |true=>rw[ay rfl,h3 hp,ih,List.filter_cons,ay hp];rfl
   |false=>rw[az (by simp),ih,List.filter_cons,az (by simp[hp])]
theorem kD{α:Type}{b:BF}{t:TF}{f:EF}(q:α→D)(h:α→D){xs:List α}(hs:∀x∈xs,∃η1,b (q x) η=some η1∧t η1=some true∧f η1=some (h x)):fL b t f (xs.map q) η=some (xs.map h):=by
  have:=nz (b:=b) (t:=t) (f:=f) (η:=η) q (fun _=>true) h (xs:=xs) (fun x hx=>by
    obtain⟨η1,h1,h2,h3⟩:=hs x hx;exact⟨η1,h1,h2,fun _=>h3⟩)
  rw[this,List.filter_eq_self.mpr (fun _ _=>rfl)]
theorem hJ(lo:Int)(n:Nat):cA lo n=((List.range n).map fun(i:Nat)=>lo+(i:Int)).map D.int:=by unfold cA;rw[fA];rfl
theorem EY:∀(ds:eZ) (n:Nat),D.Jw ds n=ds.all fun d=>d.iN n
  |[],n=>by rw[D.Jw];rfl
  |d::ds,n=>by rw[D.Jw,EY ds n,List.all_cons]
theorem Q8(ds:eZ)(n:Nat):(D.tup ds).iN (n+1)=ds.all fun d=>d.iN n:=by rw[D.iN,EY]
theorem Q9(i:Int)(n:Nat):(D.int i).iN n=true:=by rw[D.iN]
theorem M4(ns:bK)(n:Nat):(ns.map D.int).all (fun d=>d.iN n)=true:=by rw[List.all_map,eU];exact fun i _=>Q9 i n
theorem df(a b:Int):dF (.int a) (.int b)=some (.bl (a==b)):=by unfold dF;rw[ay (by rfl),dj]
theorem nA(a b:Int):lT (.int a) (.int b)=some (.bl (!(a==b))):=by unfold lT;rw[ay (by rfl),dj]
theorem Ra(a b:Bool):lT (.bl a) (.bl b)=some (.bl (!(a==b))):=by unfold lT;rw[ay (by rfl),dj]
end DL
namespace DL
open PySem PySem.Spec L2
open PyProof.Rows hiding St pairAt
section
variable {X:Cx} {z:Zc} {e a b:Expr} {f fa fb fk fv:EF} {fl fs:LF} {pos p:Pos} {g:SF} {st:Stmt} {es:List Expr} {ms:List Bool}
def yq(f:EF):LF:=fun η=>(f η).bind fun d=>(fK d).bind fun ds=>if D.yc ds=true then some ds else none
theorem JQ(hx:x="list")(hg:Gl X x)(hm:X.mg x=none)(ha:DB X z e f)(hs:starEach [e] X.env=(false,eval e X.env)::starEach [] X.env:=by rfl):DO X z (.Call (.Name x p) [e] [] pos) (yq f):=by
  subst hx;refine PE.weak (rG pQ hg hm x8 (aW ha cN hs) (by decide) (by decide) hs rfl) fun σ H Q ⟨η,F,d,r,e,k⟩=>?_;unfold yq at e;obtain⟨d',h1,e⟩:=cR.mp e;obtain⟨ds,h2,e⟩:=cR.mp e;by_cases hi:D.yc ds=true
  · rw[ay hi] at e;cases e;refine⟨η,F,d',r,h1,fun v H1 F1 g1 q1=>?_⟩;cases d' with
    |lst Bu=>cases h2;obtain⟨a,ws,rfl,h3,h4⟩:=aK.mp q1;refine⟨a,ws,rfl,.inl h3,fun l hl=>?_⟩;have g2:=aG.own g1.base hl (.lst ws) (nh g1.base h3) rfl;exact k l ws _ F1 (g1.trans g2) (g1.ent.free hl) (g1.base.sub.free hl) ax (pZ g1.base.tup _ _ hi h4)
    |tup Bu=>cases h2;obtain⟨a,ws,rfl,h3,h4⟩:=aI.mp q1;refine⟨a,ws,rfl,.inr (gw.of h3),fun l hl=>?_⟩;have g2:=aG.own g1.base hl (.lst ws) (show ws.length≤sizeLine from g1.base.sR _ _ h3) rfl;exact k l ws _ F1 (g1.trans g2) (g1.ent.free hl) (g1.base.sub.free hl) ax (pZ g1.base.tup _ _ hi h4)
    |_=>cases h2
  ·rw[az hi] at e;cases e
end
section
variable {X:Cx} {z:Zc} {e a b:Expr} {f fa fb fk fv:EF} {fl fs:LF} {pos p:Pos} {g:SF} {st:Stmt} {es:List Expr} {ms:List Bool}
def uO:SF:=fun _=>none
theorem j9:DS X z st uO:=PS.weak (t:=fun _ _ _=>False) (fun _ _ _ _ _ _ q=>q.elim) fun D σ H ⟨η,F,o,r,e,k⟩=>by cases e
theorem wC(items:Array Value):slicePick items none none (some (-1))=items.toList.reverse.toArray:=PySem.W.krv_pick items
def Xw(K:PySem.W.Frag)(te:TE):TE:=fun σ H Q=>te σ H fun x H1=>∃a xs,x=.ref a∧eW K H1 a xs∧∀p,H1 p=none→Q (.ref p) (upd H1 p (.lst xs.reverse))
theorem Rb{te:TE}{p3 p4:Pos}{j}(he:PE X e te):PE X (.Subscript e (.Slice none none (some (.UnaryOp .USub (.Constant (.int 1) j p3) p4)) p2) pos) (Xw X.K te):=by
  intro pins s σ H Q I h;refine Subscript_ (cQ (he pins s σ H _ I h) fun v s1 ⟨x,H1,I1,r1,q1⟩=>?_);obtain⟨a,xs,rfl,hx,q⟩:=q1;refine wpAny_Slice (cQ (xU pins s1 σ H1 (fun o H'=>o=none∧H'=H1) I1 ⟨rfl,rfl⟩) fun vl s2 ⟨l,H2,I2,pl,q2⟩=>cQ (xU pins s2 σ H2 (fun o H'=>o=none∧H'=H2) I2 ⟨rfl,rfl⟩) fun vu s3 ⟨u,H3,I3,pu,q3⟩=>?_);obtain⟨rfl,rfl⟩:=q2;obtain⟨rfl,rfl⟩:=q3;refine cQ (Ef (Tq Qh gT) pins s3 σ H3 (fun o H'=>o=some (-1)∧H'=H3) I3 ?_) fun vk s4 ⟨u,H4,I4,pk,q4⟩=>?_
  ·exact⟨1,rfl,-1,rfl,⟨rfl,rfl⟩⟩
  obtain⟨rfl,rfl⟩:=q4;cases r1;have I5:Inv X pins σ H4 { s4 with heap:=s4.heap.push { cls:=.type "slice",data:=.fields #[vl,vu,vk] } }:=I4.kept (t':=s4.toks) fun b ob q=>eo _ q;obtain⟨its,r,ht,hz⟩:=I5.list hx;have hlen:=r.length;refine tail_any (ops:=[.ref a,.ref s4.heap.objs.size]) ht.isList.typeIs slot_list_getitem.lookup ?_ (by with_unfolding_all rfl);refine wpAny_getItem_list_slice ht.isList ⟨_,cT _ rfl,rfl,rfl⟩ pl pu pk (by decide) ?_ (by rw[eE]<;>omega);rw[wC];refine⟨.ref _,_,I5.laid (t':=s4.toks) (o:=.lst xs.reverse) (fun b ob q=>eo _ q) (bG _) ?_,rfl,q _ (I5.bU.fresh (bG _))⟩;exact⟨by rw[List.length_reverse];exact hz,_,0,r.reverse,cT _ rfl⟩
def M5(f:EF):LF:=fun η=>(f η).bind fun d=>match d with|.lst ds=>some ds.reverse|_=>none
theorem JR{p3 p4:Pos}{j}(ha:DE X z e f):DO X z (.Subscript e (.Slice none none (some (.UnaryOp .USub (.Constant (.int 1) j p3) p4)) p2) pos) (M5 f):=PE.weak (Rb ha) fun σ H Q ⟨η,F,d,r,e,k⟩=>by
  unfold M5 at e;obtain⟨d',h1,e⟩:=cR.mp e;cases d' with
  |lst ds =>
   cases e;refine⟨η,F,_,r,h1,fun v H1 F1 g1 q1=>?_⟩;obtain⟨a,ws,rfl,h4,h5⟩:=aK.mp q1;refine⟨a,ws,rfl,g1.base.sub.seq h4,fun p hp=>?_⟩;have hz:ws.reverse.length≤sizeLine:=by rw[List.length_reverse];exact nh g1.base (g1.base.sub.seq h4)
   have g4:=aG.own g1.base hp (.lst ws.reverse) hz rfl;exact k p _ _ F1 (g1.trans g4) (g1.ent.free hp) (g1.base.sub.free hp) ax (pY h5)
  |_=>cases e
def JS(i:Nat):SF:=fun η=>match η[i]? with
  |some (some (.ot ao))=>some (.rt (.ot ao))
  |_=>none
theorem M6(i:Nat)(hN:X.N[i]?=some x:=by rfl)(hv:pL X.env.scope x:=by first|exact Or.inl rfl|exact Or.inr (Or.inl rfl)|exact Or.inr (Or.inr rfl))(hd:(x==("__debug__":Str))=false:=by decide)(dR:(x==("__classdict__":Str))=false:=by decide):DS X z (.Return (some (.Name x px)) pos) (JS i) :=
  PS.weak (mv (cM hN hv hd dR)) fun D σ H ⟨η,F,o,r,e,k⟩=>by
  unfold JS at e;split at e
  ·rename_i ao hh;cases e;obtain⟨q,o,a1,a2,a3,a4,ws,rfl,a5⟩:=r.ownAt hh rfl;exact⟨_,a1,k q ws _ _ r.mem a2 a3 a4 a5⟩
  ·cases e
def EZ(i:Nat)(Fn:eZ→eY)(fs:LF):SF:=fun η=>(fs η).bind fun ds=>(Fn ds).bind fun r=>match r with
  |.ot ao=>some (.nx (η.set i (some (.ot ao))))
  |_=>none
theorem M7{y:Str}{ap:Pos}{ps:dC}(hNd:X.N.Nodup)(C:mF X.prog X.w X.K X.mg X.base k fn ps (gG X.K ms Fn))(hr:cU k X.A)(hg:Gl X y)(hm:X.mg y=some (.ref fn))(ha:DM X z (e::es) ms fs)(iE:(y==("__debug__":Str))=false:=by decide)(he:starEach (e::es) X.env=(false,eval e X.env)::starEach es X.env:=by rfl)(m8:(backTo pos (starEach es X.env)).any (·.1)=false:=by rfl)(hi:X.N[i]?=some x:=by rfl)(hx:Loc X.env.scope x:=by first|exact Or.inl rfl|exact Or.inr rfl)(hs:swapsWith (.Call (.Name y p) (e::es) [] pos) (some (.Name x pos')) ap.line X.env=pure false:=by rfl)(hf:X.fn x=true∨X.env.scope.names.lookup x=some .local:=by first|exact .inl rfl|exact .inr rfl|assumption):DS X z (.Assign [.Name x pos'] (.Call (.Name y p) (e::es) [] pos) ap) (EZ i Fn fs) :=
  PS.weak (je hNd hi hx (Cb C hr hg hm ha iE he m8) hs hf) fun D σ H ⟨η,F,o,r,e,k⟩=>by
  unfold EZ at e;obtain⟨ds,h1,h⟩:=cR.mp e;obtain⟨s,h2,h⟩:=cR.mp h;refine⟨η,F,ds,r,h1,fun vs H1 F1 g1 q1=>?_⟩;show gG X.K ms Fn (vs++[]) H1 _ E0;rw[xH];refine⟨F1,ds,s,g1.base,q1,h2,?_⟩;cases s with
  |ot ao=>cases h;intro q ws H' F' g2 hp hF hH hd;have uH:=g1.trans g2;have Rc:=g1.ent.free hp;have ho:cO X.K F' (.ref q) (.ot ao) q:=(p7 rfl).mpr rfl;exact k _ _ _ (r.yd uH i (p:=q) ⟨q,_,ho,r.mem.ent.free Rc,hF,hH,ws,rfl,hd⟩ ho Rc) uH.cz
  |_=>cases h
end
end DL
namespace NS
open PySem PySem.Spec
def tb(led:Bool)(S:List Nat):SetTable:={ mask:=if S.length<5 then 7 else 31,place:=S.toArray,dummies:=#[],finger:=0,led:=led,moves:=if S.length<5 then 0 else 1,plain:=true }
def tp(led:Bool)(S T:List Nat):SetTable:={ mask:=if S.length<5 then 7 else 31,place:=T.toArray,dummies:=#[],finger:=0,led:=led,moves:=if S.length<5 then 0 else 1,plain:=true }
def subs:List (List Nat):=(List.range 64).map fun m=>(List.range 6).filter fun k=>m.testBit k
def ins(S:List Nat)(k:Nat):List Nat:=S.filter (·<k)++k::S.filter (k<·)
def lo(S:List Nat)(k:Nat):Nat:=(S.filter (·<k)).length
def ck1:Bool:=[true,false].all fun led=>subs.all fun S=>(List.range 6).all fun k=>S.contains k ||
  (((tb led S).freeSlot (k:Int)==some (k,false))&&decide ((tb led S).put k=(tp led S (ins S k),lo S k))&&(tp led S (ins S k)).fits (S.length+1)
    && ((tp led S (ins S k)).tooFull==(S.length==4))&&subs.contains (ins S k)&&((ins S k).length==S.length+1)&&(lo S k≤S.length))
theorem JT:ck1=true:=by decide +kernel
def ck2:Bool:=[true,false].all fun led=>subs.all fun S=>(List.range 6).all fun k=>S.contains k||S.length != 4 ||
  (decide ((tp led S (ins S k)).relaid (((ins S k).map fun(i:Nat)=>(i:Int)).toArray) (SetTable.grown 5)=some (tb led (ins S k),(List.range 5).toArray))&&(tb led (ins S k)).fits 5)
theorem JV:ck2=true:=by decide +kernel
def ck3:Bool:=[true,false].all fun led=>subs.all fun S=>(List.range 7).all fun i=>i>S.length ||
  (SetTable.below (tb led S).place (if i=0 then 0 else S.getD (i-1) 0+1)==i)
theorem JW:ck3=true:=by decide +kernel
end NS
namespace NS
open PySem PySem.Spec PySem.Calls
open PyProof.Rows hiding St pairAt
def ck4:Bool:=subs.all fun S=>(List.range 6).all fun k=>S.contains k||(S.take (lo S k)++k::S.drop (lo S k)==ins S k)
theorem JX:ck4=true:=by decide +kernel
def ck5:Bool:=(List.range 6).all fun k=>hashInt (k:Int)==(k:Int)
theorem JY:ck5=true:=by decide +kernel
theorem uP(h:k<6):hashInt (k:Int)=(k:Int):=eq_of_beq (eU.mp JY k (mj.mpr h))
def ck6:Bool:=[true,false].all fun led=>subs.all fun S=>(tb led S).fits S.length&&S.length≤6&&S.all (·<6)&&decide S.Nodup
theorem JZ:ck6=true:=by decide +kernel
theorem tW(led:Bool):led∈[true,false]:=by cases led<;>simp
theorem kE(h:S∈subs):(tb led S).fits S.length=true∧S.length≤6∧(∀k∈S,k<6)∧S.Nodup:=by have:=eU.mp (eU.mp JZ led (tW led)) S h;simp only[oz,decide_eq_true_eq,eU] at this;exact⟨this.1.1.1,this.1.1.2,this.1.2,this.2⟩
theorem GK(h:S∈subs)(hk:k<6)(hn:S.contains k=false):(tb led S).freeSlot (k:Int)=some (k,false)∧(tb led S).put k=(tp led S (ins S k),lo S k)∧(tp led S (ins S k)).fits (S.length+1)=true∧(tp led S (ins S k)).tooFull=(S.length==4)∧ins S k∈subs∧(ins S k).length=S.length+1∧lo S k≤S.length:=by
  have:=eU.mp (eU.mp (eU.mp JT led (tW led)) S h) k (mj.mpr hk);rw[hn,Bool.false_or] at this;simp only[oz,decide_eq_true_eq,beq_iff_eq,xE] at this;obtain⟨⟨⟨⟨⟨⟨h1,h2⟩,h3⟩,h4⟩,h5⟩,h6⟩,h7⟩:=this;exact⟨h1,h2,h3,h4,h5,h6,h7⟩
theorem Ar(h:S∈subs)(hk:k<6)(hn:S.contains k=false)(h4:S.length=4):(tp led S (ins S k)).relaid (((ins S k).map fun(i:Nat)=>(i:Int)).toArray) (SetTable.grown 5)=some (tb led (ins S k),(List.range 5).toArray)∧(tb led (ins S k)).fits 5=true:=by
  have:=eU.mp (eU.mp (eU.mp JV led (tW led)) S h) k (mj.mpr hk);rw[hn,h4] at this;simpa using this
theorem Rf(h:S∈subs)(hk:k<6)(hn:S.contains k=false):S.take (lo S k)++k::S.drop (lo S k)=ins S k:=by have:=eU.mp (eU.mp JX S h) k (mj.mpr hk);rw[hn,Bool.false_or] at this;exact eq_of_beq this
def Ent(l:List (Int×Value))(S:List Nat):Prop:=Paired (fun e (k:Nat)=>∃t,e=((k:Int),Value.int (k:Int) t)) l S
theorem Ent.len(h:Ent l S):l.length=S.length:=pJ h
theorem Ent.ins{x:Int×Value}{k:Nat}(hx:∃t,x=((k:Int),Value.int (k:Int) t)):∀{l:List (Int×Value)} {S:List Nat} (n:Nat),Ent l S→Ent (l.take n++x::l.drop n) (S.take n++k::S.drop n)
  |_,_,0,h=>.cons hx h
  |_,_,n+1,.nil=>.cons hx .nil
  |_,_,n+1,.cons h r=>.cons h (Ent.ins hx n r)
theorem Ent.fst(h:Ent l S):l.map (·.1)=S.map fun(i:Nat)=>(i:Int):=by
  induction h with
  |nil=>rfl
  |cons a r ih=>obtain⟨t,rfl⟩:=a;simp[ih]
theorem Ent.mem(h:Ent l S):∀e∈l,∃(k:Nat) (t:Tok),k∈S∧e=((k:Int),Value.int (k:Int) t):=by
  induction h with
  |nil=>intro e he;cases he
  |cons a r ih =>
   intro e he;rcases dm.mp he with rfl|he
   ·obtain⟨t,q⟩:=a;exact⟨_,t,eR,q⟩
   ·obtain⟨k,t,h1,h2⟩:=ih e he;exact⟨k,t,et _ h1,h2⟩
theorem Ent.Xx(h:Ent l S):∀k∈S,∃t:Tok,((k:Int),Value.int (k:Int) t)∈l:=by
  induction h with
  |nil=>intro e he;cases he
  |cons a r ih =>
   intro k he;rcases dm.mp he with rfl|he
   ·obtain⟨t,q⟩:=a;exact⟨t,q▸eR⟩
   ·obtain⟨t,h1⟩:=ih k he;exact⟨t,et _ h1⟩
def SN(h:Heap)(a:Addr)(led:Bool)(S:List Nat):Prop:=S∈subs∧∃es ep,h.get? a=some { cls:=.type "set",dict:=none,data:=.set es ep (tb led S) }∧Ent es.toList S
section
variable {prog:Program} {w:World} {A:Around} {E:fR} {s:Shared} {a:Addr}
theorem Rg{t:Tok}{Q:Bool→Shared→Prop}(hk:k<6)(hS:SN s.heap a led S)(h:∀h',Heap.SameBut a s.heap h'→SN h' a led (if S.contains k=true then S else ins S k)→∀b,Q b { s with heap:=h' }):wpAny (model prog w) A (setAddHashed a (.int (k:Int) t) (hashInt (k:Int))) Q E s:=by
  obtain⟨hs,es,ep,ho,he⟩:=hS;have hlen:es.size=S.length:=by rw[←jc];exact he.len
  obtain⟨hf,h6,oG,J0⟩:=kE (led:=led) hs;have L0:(tb led S).fits es.size=true:=by rw[hlen];exact hf
  have hb:es.size<scanBound:=by rw[hlen];unfold scanBound;omega
  have Xy:ElemsOf (intKind prog w) es.toList:=fun e q=>by obtain⟨k',t',h1,rfl⟩:=he.mem e q;exact⟨⟨(k':Int),intKind_is _ _ _ _,(uP (oG k' h1)).symm⟩,rfl⟩
  have Qj:(intKind prog w).is (k:Int) (.int (k:Int) t)=true:=intKind_is _ _ _ _;unfold setAddHashed setAddHashedIn;refine pI (aT (wpAny_setState_of ho rfl L0 ?_));dsimp only;rw[byScan_of (knd:=intKind prog w) (x:=.int (k:Int) t) rfl hb Xy];simp only[↓reduceIte];unfold setAddByScan;refine aT ?_;refine aT (wpAny_rule ?_);refine aT (wpAny_setScan_of (knd:=intKind prog w) Qj ho rfl L0 Xy ?_);cases hr:List.findIdx? (fun e=>(intKind prog w).is (k:Int) e.2) es.toList with
  |some j =>
   dsimp only;obtain⟨hj,hpj,_⟩:=List.findIdx?_eq_some_iff_getElem.mp hr;obtain⟨k',t',h1,h2⟩:=he.mem _ (List.getElem_mem hj);rw[h2] at hpj;have hkk:k=k':=by have Ss:Value.isInt (k:Int) (Value.int (k':Int) t')=true:=hpj;simp[Value.isInt] at Ss;omega
   have hc:S.contains k=true:=by rw[hkk];exact xE.mpr h1
   refine cu (cu ?_);have:=h s.heap (Heap.SameBut.refl a s.heap) (by rw[ay hc];exact⟨hs,es,ep,ho,he⟩) false;exact this
  |none =>
   dsimp only;have hc:S.contains k=false:=by
     cases hc:S.contains k with
     |false=>rfl
     |true=>obtain⟨t',q⟩:=he.Xx k (xE.mp hc);have:=List.findIdx?_eq_none_iff.mp hr _ q;rw[intKind_is] at this;cases this
   rw[az (by rw[hc];exact gP)] at h;obtain⟨l1,l2,l3,l4,l5,l6,l7⟩:=GK (led:=led) hs hk hc;have yr:(SetTable.insertAt es (lo S k) ((k:Int),Value.int (k:Int) t)).size=S.length+1:=by rw[←jc,SetTable.toList_insertAt];have h1:=he.len;rw[lZ,eT,List.length_take,List.length_drop,h1];omega
   have hL:layNew (tb led S) es (hashInt (k:Int)) (.int (k:Int) t)=(SetTable.insertAt es (lo S k) ((k:Int),Value.int (k:Int) t),tp led S (ins S k),false,false):=by unfold layNew;rw[uP hk,l1];dsimp only;rw[l2];dsimp only;unfold SetTable.orStandIn;rw[yr,l3];rfl
   rw[hL];dsimp only;have V6:Ent (SetTable.insertAt es (lo S k) ((k:Int),Value.int (k:Int) t)).toList (ins S k):=by rw[SetTable.toList_insertAt,←Rf hs hk hc];exact Ent.ins ⟨t,rfl⟩ _ he
   generalize SetTable.insertAt es (lo S k) ((k:Int),Value.int (k:Int) t)=Fb at yr V6⊢;refine aT (cu ?_);refine aT ?_;rw[hashByValue_scannable 8 rfl];refine cu ?_;rw[show plainKind (Value.int (k:Int) t)=true from rfl];simp only[↓reduceIte,Bool.not_false,Bool.true_and];have hz:Fb.size≤sizeLine:=by rw[yr,ig];omega
   refine aT (wpAny_storeSet_of ho rfl ?_ hz);have Rh:=pE s.heap a (Obj.putSet Fb (tp led S (ins S k)));have V7:(s.heap.update a (Obj.putSet Fb (tp led S (ins S k)))).get? a=some { cls:=.type "set",dict:=none,data:=.set Fb (ep+1) (tp led S (ins S k)) }:=by exact sX _ ho rfl
   rw[l4];by_cases h4:S.length=4
   · rw[ay (by rw[h4];rfl)];obtain⟨r1,r2⟩:=Ar (led:=led) hs hk hc h4;have h5:Fb.size=5:=by omega
     have hm:Fb.map (·.1)=((ins S k).map fun(i:Nat)=>(i:Int)).toArray:=by rw[←V6.fst,←Array.toList_map]
     have hR:relayAll (tp led S (ins S k)) Fb (SetTable.grown Fb.size)=(Fb,tb led (ins S k),false):=by
       unfold relayAll;rw[h5,hm,r1];dsimp only;have hfm:(List.range 5).toArray.filterMap (Fb[·]?)=Fb:=by have:=filterMap_getElem?_range Fb;rw[h5] at this;rw[List.filterMap_toArray,this]
       rw[hfm,h5,r2];rfl
     rw[hR];dsimp only;refine aT (cu ?_);refine aT (wpAny_storeSet_of V7 rfl ?_ hz);refine cu (cu (h _ (Rh.trans (pE _ a _)) ⟨l5,Fb,ep+1+1,?_,V6⟩ _));exact sX _ V7 rfl
   · rw[az (by simpa using h4)];have e:tp led S (ins S k)=tb led (ins S k):=by
       unfold tp tb;rw[l6];by_cases h5:S.length<5
       ·rw[ay h5,ay (by omega:S.length+1<5),ay h5,ay (by omega:S.length+1<5)]
       ·rw[az h5,az (by omega:¬ S.length+1<5),az h5,az (by omega:¬ S.length+1<5)]
     rw[e] at V7 Rh⊢;exact cu (cu (h _ Rh ⟨l5,Fb,ep+1,V7,V6⟩ _))
end
def J1(val:Nat→Nat):Nat→List Nat
  |0=>[]
  |i+1=>if (J1 val i).contains (val i)=true then J1 val i else ins (J1 val i) (val i)
def ll(w:World):Bool:=w.params.followText "set-order"
abbrev lU(led:Bool):Obj:={ cls:=.type "set",dict:=none,data:=.set #[] 0 (.fresh 0 0 led) }
abbrev Sz(a:Addr)(h h':Heap):Prop:=∀b o,b≠a→h.get? b=some o→h'.get? b=some o
structure qp (prog:Program) (w:World) (U:Nat) (items:Array Value) (S:Addr) (J:Nat→Heap→Prop):Prop where
  gR:∀i I h h',S<I→J i h→Sz I h h'→J i h'
  add:∀(B:Around) i v (s:Shared) (Q:Bool→Shared→Prop) (E:fR),B.units≤U→items[i]?=some v→J i s.heap →
    (∀r h' tk,Sz S s.heap h'→J (i+1) h'→Q r { s with heap:=h',toks:=tk })→wpAny (model prog w) B (setAdd S v) Q E s
structure J2 (prog:Program) (w:World) (B:Around) (items:Array Value) (S I:Addr) (K:Nat→Heap→Prop):Prop where
  gR:∀i h h',K i h→Sz S h h'→K i h'
  item:∀i v (s:Shared) (Q:fu→Shared→Prop) (E:fR),items[i]?=some v→K i s.heap→(∀h',K (i+1) h'→Sz I s.heap h'→Q (some v) { s with heap:=h' })→wpAny (model prog w) B (pyNext (.ref I)) Q E s
  done:∀(s:Shared) (Q:fu→Shared→Prop) (E:fR),K items.size s.heap→(∀h',Sz I s.heap h'→Q none { s with heap:=h' })→wpAny (model prog w) B (pyNext (.ref I)) Q E s
section
variable {prog:Program} {w:World} {A:Around} {E:fR} {s:Shared} {items:Array Value} {S l I:Addr} {J K:Nat→Heap→Prop} {R:Result→Shared→Prop} {U:Nat}
theorem uQ{B:Around}(hh:B.handled=none)(hI:I≠S)(hl:l≠S)(hIl:l≠I):J2 prog w B items S I (fun i h=>h.IsListIter I l i∧h.IsList l items) where
  gR:=fun i h h' k e=>⟨k.1.at fun o x=>e I o hI x,k.2.at fun o x=>e l o hl x⟩
  item:=fun i v s Q E hv k hQ=>wpAny_pyNext_list_item k.1 k.2 hv fun h' it x=>hQ h' ⟨it,k.2.at fun o e=>x.extBut l o hIl e⟩ x.extBut
  done:=fun s Q E k hQ=>wpAny_pyNext_list_end hh k.1 k.2 (by simp) hQ
theorem qp.all(T:qp prog w U items S J)(D:J2 prog w A.in1 items S I K)(hU:A.in1.units≤U)(CB:S<I)(hR:∀h tk,J items.size h→(∀b o,b≠S→b≠I→s.heap.get? b=some o→h.get? b=some o)→R (.ok (.ret .none)) { s with heap:=h,toks:=tk }):∀(k i:Nat),items.size-i=k→i≤items.size→∀(h:Heap) (tk:Nat),K i h→J i h→(∀b o,b≠S→b≠I→s.heap.get? b=some o→h.get? b=some o)→codeAny (model prog w) A (.builtin "set.update.loop" ⟨[.ref S,.ref I],[]⟩) R { s with heap:=h,toks:=tk }
  |0,i,hk,hi,h,tk,it,j,kp=>by
   have e:i=items.size:=by omega
   subst e;refine codeAny_builtin PyProof.Rows.F.entry_set_update_loop ?_;rw[Around.under_plainId PyProof.Rows.F.plain_set_update_loop _];exact aT (D.done _ _ _ it fun h' x=>cu (hR h' tk (T.gR _ _ _ _ CB j x) fun b o n1 n2 e=>x b o n2 (kp b o n1 n2 e)))
  |k+1,i,hk,hi,h,tk,it,j,kp=>by
   have dY:i<items.size:=by omega
   have hv:items[i]?=some items[i]:=by simp[dY]
   refine codeAny_builtin PyProof.Rows.F.entry_set_update_loop ?_;rw[Around.under_plainId PyProof.Rows.F.plain_set_update_loop _];refine aT (D.item i _ _ _ _ hv it fun h1 it1 x1=>aT (pI (T.add _ i _ _ _ _ hU hv (T.gR _ _ _ _ CB j x1) fun r h2 Xz x2 j2=>cu ⟨plainId_quiet PyProof.Rows.F.plain_set_update_loop _,?_⟩)));exact qp.all T D hU CB hR k (i+1) (by omega) dY h2 Xz (D.gR _ _ _ it1 x2) j2 fun b o n1 n2 e=>x2 b o n1 (x1 b o n2 (kp b o n1 n2 e))
theorem M8(a:Value){Q₁:fR}(h:Q₁ (.ref s.heap.objs.size) { s with heap:=s.heap.push (lU (!ll w)) }):codeAny (model prog w) A (.call (.builtin "set.__new__") ⟨[.type "set",a],[]⟩) (wants Q₁ E) s:=by
  have q:=sub_set_self;refine codeAny_of_tree (aT (wpAny_of_eq (PySem.F.newCall_set_1 a) (cu ⟨plainId_quiet PySem.F.plain_set_new _,codeAny_builtin PySem.F.entry_set_new ?_⟩)));rw[Around.under_plainId PySem.F.plain_set_new _];unfold Builtin.«set.__new__» Builtin.Frozenset.newClass
  wp_walk using wpAny_askSetting
  exact h
theorem qp.call{it:Obj}(X:qp prog w U items s.heap.objs.size J)(n1:isSubtype (.type T) (.type "set")=pure false)(n2:isSubtype (.type T) (.type "frozenset")=pure false)(n3:(Value.type T==Value.type "dict")=false)(hT:s.TypeIs (.ref l) T)(hU:A.in1.in1.in1.units≤U)(zero:∀h,h.get? s.heap.objs.size=some (lU (!ll w))→Sz s.heap.objs.size s.heap h→J 0 h)(hit:∀(B:Around) (Q:fR) (E:fR),Q (.ref (s.heap.push (lU (!ll w))).objs.size) { s with heap:=(s.heap.push (lU (!ll w))).push it }→wpAny (model prog w) B (pyIter (.ref l)) Q E { s with heap:=s.heap.push (lU (!ll w)) })(D:J2 prog w A.in1.in1.in1 items s.heap.objs.size (s.heap.objs.size+1) K)(hK:K 0 ((s.heap.push (lU (!ll w))).push it))(hQ:∀h' tk,J items.size h'→(∀b o,s.heap.get? b=some o→h'.get? b=some o)→Q (.ref s.heap.objs.size) { s with heap:=h',toks:=tk }):wpAny (model prog w) A (call (.type "set") [.ref l]) Q E s:=by
  obtain⟨c,tl,acp⟩:=zy.mro;have q1:=zy.made;have q2:=zy.sub;have q3:=zy.notType;have q4:=zy.canCreate;have q5:=PySem.F.typeCall_set_1 (.ref l);have q6:=zy.init.lookup;have q7:=zy.init.bind (.ref s.heap.objs.size);have hS:(s.heap.push (lU (!ll w))).get? s.heap.objs.size=some (lU (!ll w)):=cT _ rfl;have tS:Shared.TypeIs { s with heap:=s.heap.push (lU (!ll w)) } (.ref s.heap.objs.size) "set":=⟨_,hS,rfl⟩
  have body:wpAny (model prog w) A.in1.in1 (Builtin.«set.__init__» ⟨[.ref s.heap.objs.size,.ref l],[]⟩)
      (fun fin s'=>match fin with|.done f=>wants (fun r s₂=>r=.none∧Q (.ref s.heap.objs.size) s₂) E (.ok f) s'|.again c'=>c'.quiet=true∧codeAny (model prog w) A.in1 c' (wants (fun r s₂=>r=.none∧Q (.ref s.heap.objs.size) s₂) E) s')
      (fun e s'=>wants (fun r s₂=>r=.none∧Q (.ref s.heap.objs.size) s₂) E (.error e) s') { s with heap:=s.heap.push (lU (!ll w)) }:=by
    have tl:Shared.TypeIs { s with heap:=s.heap.push (lU (!ll w)) } (.ref l) T:=let ⟨o,e,c⟩:=hT;⟨o,eo _ e,c⟩
    have z:(s.heap.push (lU (!ll w))).objs.size=s.heap.objs.size+1:=kK _ _;unfold Builtin.«set.__init__» noKeywords Builtin.Frozenset.updateFrom
    wp_walk using hit
    rw[z];refine X.all (s:={ s with heap:=(s.heap.push (lU (!ll w))).push it }) D hU (Nat.lt_succ_self _) (fun h tk j kp=>?_) items.size 0 (Nat.sub_zero _) (iC _) _ _ hK (zero _ (eo _ hS) fun b o _ e=>eo _ (eo _ e)) fun _ _ _ _ e=>e;show wpAny (model prog w) A.in1.in1 (pure ()) _ _ _;refine cu ?_;show wpAny (model prog w) A.in1.in1 (ret Value.none) _ _ _;exact cu ⟨rfl,hQ h tk j fun b o e=>kp b o (dw (bL e)) (dw (Nat.lt_succ_of_lt (bL e))) (eo _ (eo _ e))⟩
  refine wpAny_call (codeAny_of_tree (cu ⟨Code.quiet_builtin _ (by decide +kernel),codeAny_builtin PySem.F.entry_type_call ?_⟩));rw[Around.under_plain (weight_type_call_type "set" [.ref l] []) rfl]
  wp_walk
  refine M8 (E:=E) (.ref l) ?_
  wp_walk
  refine codeAny_mono (codeAny_call_builtin zy.init.plain PySem.F.entry_set_init (check_set_init_1 tS body)) fun r s₂ hr=>?_
  match r,hr with
  |.ok (.ret v),⟨e,hq⟩ =>
   subst e
   wp_walk
   exact hq
  |.error e,hr=>exact hr
theorem SN.kept{S:List Nat}(x:SN h a led S)(k:∀o,h.get? a=some o→h'.get? a=some o):SN h' a led S:=by obtain⟨h1,es,ep,ho,he⟩:=x;exact⟨h1,es,ep,k _ ho,he⟩
theorem CC{val:Nat→Nat}(yt:∀i v,items[i]?=some v→val i<6∧∃t,v=.int (val i:Int) t):qp prog w U items S (fun i h=>SN h S (!ll w) (J1 val i)) where
  gR:=fun i I h h' CB j k=>j.kept fun o e=>k S o (dw CB) e
  add:=fun B i v s Q E _ hv j hQ=>by obtain⟨h6,t,e⟩:=yt i v hv;subst e;exact pI (aT ((intKind prog w).pyHash (intKind_is _ _ _ _) (Rg (s:={ s with toks:=s.toks+1 }) h6 j fun h' x hS r=>hQ r h' _ (fun b o n e=>(x.2 b n).trans e) hS)))
theorem CD{val:Nat→Nat}(e:h.get? S=some (lU (!ll w))):SN h S (!ll w) (J1 val 0):=⟨(by decide +kernel:([]:List Nat)∈subs),#[],0,e,.nil⟩
theorem CF{val:Nat→Nat}(hh:A.handled=none)(hl:s.heap.IsList l items)(yt:∀i v,items[i]?=some v→val i<6∧∃t,v=.int (val i:Int) t)(h:∀(h':Heap) (tk:Nat),SN h' s.heap.objs.size (!ll w) (J1 val items.size)→(∀b o,b<s.heap.objs.size→s.heap.get? b=some o→h'.get? b=some o)→Q (.ref s.heap.objs.size) { s with heap:=h',toks:=tk }):wpAny (model prog w) A (call (.type "set") [.ref l]) Q E s:=by
  have lt:l<s.heap.objs.size:=let ⟨_,ho,_⟩:=hl;bL ho
  have z:(s.heap.push (lU (!ll w))).objs.size=s.heap.objs.size+1:=kK _ _;exact qp.call (CC yt) PySem.F.sub_list_set PySem.F.sub_list_frozenset (by decide) hl.typeIs (bG _) (fun h e _=>CD e)
    (fun B Q E hq=>wpAny_pyIter_list (s:={ s with heap:=s.heap.push (lU (!ll w)) }) (hl.push _) hq)
    (uQ (l:=l) (by simpa using hh) (Nat.succ_ne_self _) (dw lt) (dw (Nat.lt_succ_of_lt lt))) ⟨⟨_,by rw[←z];exact cT _ rfl,rfl,rfl⟩,(hl.push _).push _⟩ fun h' tk j k=>h h' tk j fun b o _ e=>k b o e
end
theorem iR:Slot "set_iterator" "__next__" "set_iterator.__next__" :=
  .of (owner:="set_iterator") (n:="__next__") (by rw[typeLookup_type,builtinLookup_eq_fast];kernel_rfl) (by decide +kernel) (by decide +kernel) (by decide +kernel)
    (by first|exact .inl (by decide +kernel)|exact .inr (by decide +kernel)) (by rw[isSubtype_type];kernel_rfl)
theorem wF:entryFor table "set_iterator.__next__"=some Builtin.«set_iterator.__next__»:=entryFor_of_tree (by kernel_rfl)
theorem As:Manifest.owners.lookup (String.ofList ['r','o','t','a','r','e','t','i','_','t','e','s'].reverse)=some Manifest.sig_set_iterator:=by kernel_rfl
theorem yu(a:Value):argsOk "set_iterator.__next__" ⟨[a],[]⟩:=by unfold argsOk;rw[signature?_of (id:="set_iterator.__next__") (n:=['_','_','t','x','e','n','_','_']) (o:=['r','o','t','a','r','e','t','i','_','t','e','s']) (by kernel_rfl) As];kernel_rfl
theorem qt:Slot "set_iterator" "__iter__" "set_iterator.__iter__" :=
  .of (owner:="set_iterator") (n:="__iter__") (by rw[typeLookup_type,builtinLookup_eq_fast];kernel_rfl) (by decide +kernel) (by decide +kernel) (by decide +kernel)
    (by first|exact .inl (by decide +kernel)|exact .inr (by decide +kernel)) (by rw[isSubtype_type];kernel_rfl)
theorem wG:entryFor table "set_iterator.__iter__"=some Builtin.«dict_keyiterator.__iter__» :=
  entryFor_alias (id':="dict_keyiterator.__iter__") (by kernel_rfl) rfl (by decide +kernel) (by kernel_rfl)
theorem yw(a:Value):argsOk "set_iterator.__iter__" ⟨[a],[]⟩:=by unfold argsOk;rw[signature?_of (id:="set_iterator.__iter__") (n:=['_','_','r','e','t','i','_','_']) (o:=['r','o','t','a','r','e','t','i','_','t','e','s']) (by kernel_rfl) As];kernel_rfl
theorem uR:entryFor table "set.__iter__"=some Builtin.«frozenset.__iter__» :=
  entryFor_alias (id':="frozenset.__iter__") (by kernel_rfl) rfl (by decide +kernel) (by kernel_rfl)
theorem uS{α:Type}:∀(l:List α) (j:Nat) (h:j<l.length),(l[j]::l.eraseIdx j).Perm l
  |x::r,0,_=>.refl _
  |x::r,j+1,h=>by
   have hj:j<r.length:=by simpa using h
   show(r[j]::x::r.eraseIdx j).Perm (x::r);exact(List.Perm.swap x r[j] (r.eraseIdx j)).trans (.cons x (uS r j hj))
theorem Fc{α:Type}(next:Nat→Nat):∀(fuel k:Nat) (left:List α) (out:Array α),left.length≤fuel→(pickOrder.go next fuel k left out).toList.Perm (out.toList++left)
  |0,k,[],out,_=>by unfold pickOrder.go;simp
  |0,k,x::r,out,h=>by simp at h
  |fuel+1,k,[],out,_=>by unfold pickOrder.go;simp
  |fuel+1,k,x::r,out,h=>by unfold pickOrder.go;have dY:next k%(x::r).length<(x::r).length:=Nat.mod_lt _ (by simp);rw[eP dY];dsimp only;refine(Fc next fuel (k+1) _ _ (by rw[List.length_eraseIdx_of_lt dY];omega)).trans ?_;rw[Array.toList_push,List.append_assoc];refine List.Perm.append_left _ ?_;exact uS _ _ dY
theorem GL{α:Type}(next:Nat→Nat)(xs:Array α):(pickOrder next xs).toList.Perm xs.toList:=by unfold pickOrder;have:=Fc next xs.size 0 xs.toList #[] (by simp);simpa using this
def ord(w:World)(a:Addr)(es:Array (Int×Value))(ep:Nat):Array (Int×Value):=if ll w=true then pickOrder (w.params.setOrder a ep) es else es
theorem Au(w:World)(a:Addr)(es:Array (Int×Value))(ep:Nat):(ord w a es ep).toList.Perm es.toList:=by
  unfold ord;split
  ·exact GL _ _
  ·exact .refl _
theorem uT(w:World)(a:Addr)(es:Array (Int×Value))(ep:Nat):(ord w a es ep).size=es.size:=by rw[←jc,(Au w a es ep).length_eq,jc]
def at'(S:List Nat)(i:Nat):Nat:=if i=0 then 0 else S.getD (i-1) 0+1
theorem below_at(h:S∈subs)(hi:i≤S.length):SetTable.below (tb led S).place (at' S i)=i:=by have h6:=(kE (led:=led) h).2.1;have:=eU.mp (eU.mp (eU.mp JW led (tW led)) S h) i (mj.mpr (by omega));rw[show decide (i>S.length)=false from gQ (by omega),Bool.false_or] at this;exact eq_of_beq this
def Av(h:Heap)(it a:Addr)(slot i n ep:Nat):Prop:=∃o,h.get? it=some o∧o.cls=.type "set_iterator"∧o.data=.fields #[.int slot 0,.int i 0,.ref a,.int n 0,.int ep 0]
theorem Av.typeIs{it a slot i n ep}(x:Av s.heap it a slot i n ep):s.TypeIs (.ref it) "set_iterator":=let ⟨o,ho,hc,_⟩:=x;⟨o,ho,hc⟩
def SD(h:Heap)(a:Addr)(led:Bool)(S:List Nat)(es:Array (Int×Value))(ep:Nat):Prop:=h.get? a=some { cls:=.type "set",dict:=none,data:=.set es ep (tb led S) }
section
variable {prog:Program} {w:World} {A:Around} {E:fR} {s:Shared} {it a:Addr} {S:List Nat} {es:Array (Int×Value)} {ep i slot:Nat}
theorem J3{Q:Option (Value×Nat)→Shared→Prop}(hs:S∈subs)(he:Ent es.toList S)(hS:SD s.heap a (!ll w) S es ep)(hi:i≤es.size)(hsl:ll w=false→slot=at' S i)(h:∀lM,(ll w=false→lM=at' S (i+1))→Q (((ord w a es ep)[i]?).map fun e=>(e.2,lM)) s):wpAny (model prog w) A (setNext a slot i ep) Q E s:=by
  have hlen:es.size=S.length:=by rw[←jc];exact he.len
  have L0:(tb (!ll w) S).fits es.size=true:=by rw[hlen];exact(kE hs).1
  unfold setNext;refine aT (wpAny_setState_of hS rfl L0 ?_);dsimp only;unfold setsByText;refine aT (aT (wpAny_askSetting (cu ?_)));dsimp only;by_cases hb:ll w=true
  ·rw[ay (show(model prog w).w.params.followText "set-order"=true from hb),az (by simp)];refine aT ?_;unfold setWalk;refine aT (wpAny_setState_of hS rfl L0 ?_);dsimp only;unfold setsByText;refine aT (aT (wpAny_askSetting (cu ?_)));dsimp only;rw[ay (show(model prog w).w.params.followText "set-order"=true from hb)];refine aT (wpAny_askSetting (cu ?_));have:=h slot (fun q=>by rw[hb] at q;cases q);unfold ord at this;rw[ay hb] at this;exact cu this
  · have Bs:ll w=false:=by simpa using hb
    rw[az (show ¬ (model prog w).w.params.followText "set-order"=true from hb)];refine wpAny_ite_split (fun pC=>absurd pC gP) (fun _=>?_);rw[Bs] at hS L0⊢;refine aT (cu ?_);rw[hsl Bs,below_at hs (by omega)];have Ux:ord w a es ep=es:=by unfold ord;rw[az hb]
    refine cu ?_;by_cases dY:i<es.size
    · have:=h (at' S (i+1)) (fun _=>rfl);rw[Ux,ug dY] at this;rw[ug dY];have hp:(tb (!false) S).place[i]?=some (S.getD i 0):=by
        show S.toArray[i]?=_;rw[List.getElem?_toArray,jb,eP (by omega)];rfl
      rw[hp];exact this
    ·have:=h (at' S (i+1)) (fun _=>rfl);rw[Ux,BD (by omega)] at this;rw[BD (by omega)];exact this
theorem tX{Q:fu→Shared→Prop}(hh:A.handled=none)(hs:S∈subs)(he:Ent es.toList S)(hS:SD s.heap a (!ll w) S es ep)(hi:i≤es.size)(hsl:ll w=false→slot=at' S i)(hit:Av s.heap it a slot i es.size ep)(hQ:∀e lM h',(ord w a es ep)[i]?=some e→(ll w=false→lM=at' S (i+1))→Av h' it a lM (i+1) es.size ep→Heap.ExtBut it s.heap h'→Q (some e.2) { s with heap:=h' })(hN:∀h',(ord w a es ep)[i]?=none→Heap.ExtBut it s.heap h'→Q none { s with heap:=h' }):wpAny (model prog w) A (pyNext (.ref it)) Q E s:=by
  have ty:=hit.typeIs;have fit:(tb (!ll w) S).fits es.size=true:=by rw[←jc,he.len];exact(kE hs).1
  have h1:A.in1.handled=none:=by simpa using hh
  obtain⟨⟨oc,odi,oda,wc⟩,ho,hc,hd⟩:=hit;cases hc;cases hd;refine aT (wpAny_attempt (vZ ty iR (nL iR ty wF (aT (cu (aT (wpAny_fieldsOf ho rfl (aT (wpAny_setEntries_of hS rfl fit ?_)))))) (yu _))));refine wpAny_ite_split (fun c=>absurd c (by simp)) fun _=>aT (J3 hs he hS hi hsl fun lM q=>?_);simp only[rj] at q⊢;cases hx:(ord w a es ep)[i]? with
  |some e=>have up:=sX (Obj.mapFields fun x=>x.setIfInBounds 0 (rawInt (lM:Int))) ho rfl;refine aT (wpAny_setField (i:=0) (x:=rawInt (lM:Int)) ho rfl (by simp) ?_);refine aT (wpAny_setField (i:=1) (x:=rawInt ((i:Int)+1)) up rfl (by simp) (cu ⟨_,rfl,cu (hQ e lM _ hx q ⟨_,sX _ up rfl,rfl,?_⟩ ((pE ..).trans (pE ..)).extBut)⟩));simp[Obj.mapFields,rawInt]
  |none =>
   refine aT (wpAny_setField (i:=2) (x:=.none) ho rfl (by simp) ?_)
   wp_walk
   unfold raiseNew;refine aT (wpAny_handled ?_);rw[h1];refine aT (cu (wpAny_throw ?_));refine aT (wpAny_isInstance ⟨_,cT _ rfl,rfl⟩ isSubtype_stop (cu (hN _ hx fun b o n e=>?_)));exact eo _ (eo _ ((pE ..).extBut b o n e))
theorem Av.at{it a slot i n ep}(x:Av h it a slot i n ep)(e:∀o,h.get? it=some o→h'.get? it=some o):Av h' it a slot i n ep:=let ⟨o,ho,r⟩:=x;⟨o,e _ ho,r⟩
def StS(w:World)(it a:Addr)(S:List Nat)(es:Array (Int×Value))(ep:Nat)(i:Nat)(h:Heap):Prop:=(∃slot,(ll w=false→slot=at' S i)∧Av h it a slot i es.size ep)∧SD h a (!ll w) S es ep
theorem GN(hh:A.handled=none)(it a:Addr)(lX:a≠it)(hs:S∈subs)(he:Ent es.toList S) :
    Walks prog w A it [it,a] [it] es.size (fun i v=>∃e,(ord w a es ep)[i]?=some e∧v=e.2) (StS w it a S es ep) where
  sub:=fun b hb=>by simp at hb;simp[hb]
  frame:=fun i h h' ⟨⟨slot,h1,h2⟩,h3⟩ hk=>⟨⟨slot,h1,h2.at fun o e=>hk it (by simp) o e⟩,hk a (by simp) _ h3⟩
  item:=fun i s Q E hi ⟨⟨slot,h1,h2⟩,h3⟩ hQ=>by
    refine tX hh hs he h3 (by omega) h1 h2 (fun e lM h' hx hsl wx Pp=>?_) (fun h' hx _=>?_)
    ·exact hQ e.2 h' s.toks ⟨e,hx,rfl⟩ ⟨⟨lM,hsl,wx⟩,Pp a _ lX h3⟩ fun b o hb e=>Pp b o (fun h=>hb (by simp[h])) e
    ·rw[Array.getElem?_eq_none_iff,uT] at hx;omega
  done:=fun s Q E ⟨⟨slot,h1,h2⟩,h3⟩ hQ=>by
    refine tX hh hs he h3 (bG _) h1 h2 (fun e lM h' hx hsl wx Pp=>?_) (fun h' hx Uy=>hQ h' s.toks fun b o hb e=>Uy b o (fun h=>hb (by simp[h])) e);have:(ord w a es ep)[es.size]?=none:=by rw[Array.getElem?_eq_none_iff,uT];exact bG _
    rw[this] at hx;cases hx
  self:=fun i s Q E ⟨⟨slot,h1,hit⟩,h3⟩ h=>by refine wpAny_pyIter_slot hit.typeIs qt (nL qt hit.typeIs wG ?_ (yw _));show wpAny _ _ (ret (.ref it)) _ _ s;exact cu ⟨_,rfl,"set_iterator",_,hit.typeIs,iR.lookup,h⟩
theorem J4(hs:S∈subs)(he:Ent es.toList S)(hS:SD s.heap a (!ll w) S es ep)(hQ:Q (.ref s.heap.objs.size) { s with heap:=s.heap.push { cls:=.type "set_iterator",data:=.fields #[.int 0 0,.int 0 0,.ref a,.int es.size 0,.int ep 0] } }):wpAny (model prog w) A (pyIter (.ref a)) Q E s:=by
  have hT:s.TypeIs (.ref a) "set":=⟨_,hS,rfl⟩
  have hlen:es.size=S.length:=by rw[←jc];exact he.len
  have L0:(tb (!ll w) S).fits es.size=true:=by rw[hlen];exact(kE hs).1
  refine wpAny_pyIter_slot hT PySem.F.slot_set_iter (nL PySem.F.slot_set_iter hT uR ?_ (PySem.F.args_set_iter_1 _));unfold Builtin.«frozenset.__iter__»;refine aT (cu ?_);refine aT ?_;unfold Builtin.Frozenset.sizeOf;refine aT (wpAny_setEntries_of hS rfl L0 (cu ?_));refine aT ?_;refine aT (wpAny_setState_of hS rfl L0 ?_);dsimp only;unfold setsByText;refine aT (aT (wpAny_askSetting (cu ?_)));refine cu ?_;refine wpAny_ite_split (fun pC=>absurd pC (by show ¬ ((_&&(false&&_))=true);rw[Bool.false_and,Bool.and_false];exact gP)) (fun _=>?_);refine aT (cu ?_);refine aT (wpAny_setEpoch_of hS rfl L0 ?_);refine aT (wpAny_newObj_type (cu ⟨_,rfl,"set_iterator",_,⟨_,cT _ rfl,rfl⟩,iR.lookup,?_⟩));simpa[rawInt] using hQ
end
end NS
namespace NS
open PySem PySem.Spec PySem.Calls PySem.W
open PyProof.Rows hiding St pairAt
def ck7:Bool:=subs.all fun S=>S==(List.range 6).filter S.contains
theorem J5:ck7=true:=by decide +kernel
theorem CG(h:S∈subs):S=(List.range 6).filter S.contains:=eq_of_beq (eU.mp J5 S h)
theorem M9:j∈ins S k↔j=k∨j∈S:=by
  unfold ins;simp only[md,List.mem_filter,dm,decide_eq_true_eq];constructor
  · rintro(h|h|h)
    ·exact .inr h.1
    ·exact .inl h
    ·exact .inr h.1
  · rintro(h|h)
    ·exact .inr (.inl h)
    · rcases Nat.lt_trichotomy j k with q|q|q
      ·exact .inl ⟨h,q⟩
      ·exact .inr (.inl q)
      ·exact .inr (.inr ⟨h,q⟩)
theorem Fd{val:Nat→Nat}{j:Nat}:∀{n:Nat},j∈J1 val n↔∃i,i<n∧val i=j
  |0=>by simp[J1]
  |n+1=>by
   have ih:=Fd (val:=val) (j:=j) (n:=n);unfold J1;split
   · rename_i h;rw[ih];constructor
     ·rintro⟨i,h1,h2⟩;exact⟨i,by omega,h2⟩
     · rintro⟨i,h1,h2⟩;by_cases e:i=n
       ·subst e;have:=xE.mp h;rw[h2] at this;exact ih.mp this
       ·exact⟨i,by omega,h2⟩
   · rw[M9,ih];constructor
     · rintro(h|⟨i,h1,h2⟩)
       ·exact⟨n,by omega,h.symm⟩
       ·exact⟨i,by omega,h2⟩
     · rintro⟨i,h1,h2⟩;by_cases e:i=n
       ·subst e;exact .inl h2.symm
       ·exact .inr ⟨i,by omega,h2⟩
def nameSet(ns:bK):List Nat:=(List.range 6).filter fun k=>ns.contains (k:Int)
theorem Ri(hs:J1 (fun i=>(ns.getD i 0).toNat) ns.length∈subs)(h0:∀n∈ns,0≤n∧n<6):J1 (fun i=>(ns.getD i 0).toNat) ns.length=nameSet ns:=by
  rw[CG hs];unfold nameSet;refine List.filter_congr fun k hk=>?_;rw[pG,xE,xE,Fd];constructor
  · rintro⟨i,h1,h2⟩;rw[jb,eP h1] at h2;have hm:=List.getElem_mem h1;have:=h0 _ hm;have e:ns[i]=(k:Int):=by simp at h2;omega
    rw[←e];exact hm
  ·intro hm;obtain⟨i,h1,h2⟩:=List.getElem_of_mem hm;refine⟨i,h1,?_⟩;rw[jb,eP h1,h2];simp
def ck8:Bool:=subs.all fun S=>decide ((S.map fun(i:Nat)=>(i:Int)).Pairwise (·≤·))
theorem J6:ck8=true:=by decide +kernel
section
variable {prog:Program} {w:World} {A:Around} {E:fR} {s:Shared} {a:Addr} {S:List Nat} {es:Array (Int×Value)} {ep:Nat}
theorem J7{Q:Bool→Shared→Prop}(hT:s.TypeIs (.ref a) "set")(h:Q false s):wpAny (model prog w) A (Builtin.List.listLengthHint (.ref a)) Q E s:=by
  have sp:splitId "set.__len__"=some ("set","__len__"):=by decide +kernel
  have sub:isSubtype (.type "set") (.type "set")=pure true:=by rw[isSubtype_type];kernel_rfl
  refine aT (wpAny_specialOf hT PySem.F.slot_set_len.lookup ?_);dsimp only;rw[sp];exact aT (wpAny_isInstance (b:=true) hT sub (wpAny_ite_split (fun c=>nomatch c) fun _=>wpAny_ite_split (fun _=>aT (wpAny_typeOf hT (cu h))) fun c=>absurd (by decide +kernel) c))
theorem Nb(hs:S∈subs)(he:Ent es.toList S):KdlSrc prog w "set" a a es.size (fun i v=>∃e,(ord w a es ep)[i]?=some e∧v=e.2) (fun h=>SD h a (!ll w) S es ep) where
  type:=fun _ hm=>⟨_,hm,rfl⟩
  there:=fun _ hm=>⟨bL hm,bL hm⟩
  keep:=fun _ _ hm hk=>hk a (.inl rfl) _ hm
  notList:=by decide
  notTuple:=by decide
  hint:=fun _ _ _ _ hm hq=>J7 ⟨_,hm,rfl⟩ hq
  iter:=fun _ s hh hm=>⟨_,_,(fun _ _ hq=>J4 hs he hm hq),GN hh _ a (dw (bL hm)) hs he,⟨⟨0,fun _=>rfl,_,cT _ rfl,rfl,rfl⟩,eo _ hm⟩⟩
theorem GO{l':List (Int×Value)}(hp:l'.Perm l)(he:Ent l S):∃ns:bK,IntsAre (l'.map (·.2)) ns∧ns.Perm (S.map fun(i:Nat)=>(i:Int)):=by
  have key:∀(q:List (Int×Value)),(∀e∈q,∃t:Tok,e.2=.int e.1 t)→IntsAre (q.map (·.2)) (q.map (·.1)):=by
    intro q;induction q with
    |nil=>intro _;exact .nil
    |cons x r ih=>intro h;obtain⟨t,e⟩:=h x eR;rw[cB,cB,e];exact .cons _ t (ih fun e he=>h e (et _ he))
  refine⟨l'.map (·.1),key l' fun e hm=>?_,?_⟩
  ·obtain⟨k,t,_,rfl⟩:=he.mem e (hp.mem_iff.mp hm);exact⟨t,rfl⟩
  ·rw[←he.fst];exact hp.map _
theorem CH(hh:A.handled=none)(hs:S∈subs)(he:Ent es.toList S)(hS:SD s.heap a (!ll w) S es ep)(h:∀(D:Addr) (h':Heap) (tk:Nat) (out:Array Value) (e:Nat),a<D→(∀b o,s.heap.get? b=some o→h'.get? b=some o)→h'.get? D=some (seqObj "list" out e)→IntsAre out.toList (S.map fun(i:Nat)=>(i:Int))→Q (.ref D) { s with heap:=h',toks:=tk }):wpAny (model prog w) A (call (.builtin "sorted") [.ref a]) Q E s:=by
  have hlen:es.size=S.length:=by rw[←jc];exact he.len
  have h6:=(kE (led:=true) hs).2.1;refine call_function_entry kind_sorted plain_sorted entry_sorted (args_sorted1 _) ?_;unfold Builtin.«sorted»;refine aT (m:=checkCount "sorted" 1 1 _) (cu ?_);refine aT (kdu_collect (A:=A.in1) (Nb hs he) hh hS (by rw[hlen,ig];omega) fun h' tk acc hk tG=>?_);have hl:acc.toList.length=es.size:=by rw[jc];exact tG.1
  have hv:acc.toList=(ord w a es ep).toList.map (·.2):=by
    refine List.ext_getElem? fun j=>?_;rw[eS,v3,v3];cases hj:acc[j]? with
    |some v=>obtain⟨e,h1,h2⟩:=tG.2 j v hj;rw[h1,h2];rfl
    |none=>rw[Array.getElem?_eq_none_iff] at hj;rw[BD (by rw[uT,←tG.1];exact hj)];rfl
  obtain⟨ns,hI,hp⟩:=GO (Au w a es ep) he;rw[←hv] at hI;refine aT (wpAny_newList ?_ (by rw[hl,hlen,ig];omega));have OZ:(h'.push (seqObj "list" acc.toList.toArray 0)).get? h'.objs.size=some (seqObj "list" acc.toList.toArray 0):=cT _ rfl;show wpAny _ _ _ _ _ { s with heap:=h'.push (seqObj "list" acc.toList.toArray 0),toks:=tk };refine aT (pI (nL slot_list_sort ⟨_,OZ,rfl⟩ entry_list_sort (list_sort_tree (s:={ s with heap:=h'.push (seqObj "list" acc.toList.toArray 0),toks:=tk }) OZ hI (by rw[hl,hlen];omega) fun out O4 a1 a2 a3=>⟨_,rfl,?_⟩) (args_list_sort _)));have e0:O4=S.map fun(i:Nat)=>(i:Int):=List.Perm.eq_of_pairwise (le:=fun a b:Int=>a≤b) (fun a b _ _ h1 h2=>by omega) a3 (of_decide_eq_true (eU.mp J6 S hs)) (a2.trans hp);rw[e0] at a1;obtain⟨e,Fe⟩:=sortedHeap_at (out:=out) OZ;refine cu ⟨_,rfl,h h'.objs.size _ tk out e ?_ (fun b o q=>?_) Fe a1⟩
  ·exact bL (hk _ _ hS)
  ·have hb:=bL (hk _ _ q);rw[sortedHeap_old (dw hb) (by rw[size_push'];exact Nat.lt_succ_of_lt hb)];exact eo _ (hk _ _ q)
end
end NS
namespace DL
open PySem PySem.Spec L2 NS
open PyProof.Rows hiding St pairAt
section
variable {X:Cx} {z:Zc} {e a b:Expr} {f fa fb fk fv:EF} {fl fs:LF} {pos p p' pos':Pos} {g:SF} {st:Stmt} {es:List Expr} {ms:List Bool} {te:TE}
def tSS(K:PySem.W.Frag)(te:TE):TE:=fun σ H Q=>te σ H fun x H1=>∃a ns,x=.ref a∧eW K H1 a (ns.map V.int)∧(∀n∈ns,0≤n∧n<6)∧∀l,H1 l=none→Q (.ref l) (upd H1 l (.lst ((nameSet ns).map fun(k:Nat)=>V.int (k:Int))))
theorem Aw{vs:cv}(h:IntsAre vs ns):∀(i:Nat) (v:Value),vs[i]?=some v→ns.getD i 0∈ns∧∃t,v=.int (ns.getD i 0) t:=by
  induction h with
  |nil=>intro i v q;simp at q
  |cons n t r ih =>
   intro i v q;cases i with
   |zero=>simp at q;subst q;exact⟨by simp,t,by simp⟩
   |succ i=>obtain⟨h1,t',h2⟩:=ih i v (by simpa using q);exact⟨by simpa using Or.inr (by simpa using h1),t',by simpa using h2⟩
theorem CJ(hc:X.calm=true)(wH:Gl X "sorted")(nX:X.mg "sorted"=none)(hg:Gl X "set")(hm:X.mg "set"=none)(he:PE X e te)(hs:starEach [e] X.env=(false,eval e X.env)::starEach [] X.env:=by rfl)(ku:starEach [Expr.Call (.Name "set" p') [e] [] pos'] X.env=(false,eval (.Call (.Name "set" p') [e] [] pos') X.env)::starEach [] X.env:=by rfl):PE X (.Call (.Name "sorted" p) [.Call (.Name "set" p') [e] [] pos'] [] pos) (tSS X.K te):=by
  intro pins s σ H Q I h;refine sZ (gU I wH nX w6 ?_ (by decide) (by decide));refine PyProof.Rows.callWith_builtin1 ?_ ku rfl;rw[ku];show wpAny _ _ (spliced ((false,eval (.Call (.Name "set" p') [e] [] pos') X.env)::backTo pos (starEach [] X.env))) _ _ s;refine v9 ?_;refine sZ (gU I hg hm IZ ?_ (by decide) (by decide));refine Bz ?_ hs rfl;rw[hs];show wpAny _ _ (spliced ((false,eval e X.env)::backTo pos' (starEach [] X.env))) _ _ s;refine v9 (cQ (he pins s σ H _ I h) fun u s1 ⟨x,H1,I1,r1,q1⟩=>?_);refine xG ?_;obtain⟨a,ns,rfl,hq,h0,hk⟩:=q1;cases r1;obtain⟨its,rv,hl,_⟩:=I1.list hq;have hi:=intsAre_of rv;have l1:ns.length=its.length:=by have:=rv.length;simpa using this
  have hh:X.A.handled=none:=I1.ok.hd hc;refine CF (val:=fun i=>(ns.getD i 0).toNat) hh hl.isList (fun i v hv=>?_) fun h' tk hS J8=>?_
  ·obtain⟨h1,t,rfl⟩:=Aw hi i v (by simpa using hv);have:=h0 _ h1;exact⟨by omega,t,by rw[show((ns.getD i 0).toNat:Int)=ns.getD i 0 from by omega]⟩
  refine xG ?_;rw[show its.toArray.size=ns.length from by rw[eE,l1]] at hS;obtain⟨QG,es,ep,XA,XB⟩:=hS;refine CH hh QG XB XA fun D h2 Xz out e hD hk2 Fe hio=>?_;rw[Ri QG h0] at hio;have oG:∀b o,s1.heap.get? b=some o→h2.get? b=some o:=fun b o q=>hk2 b o (J8 b o (bL q) q);refine⟨.ref D,_,I1.laid (a:=D) (o:=.lst ((nameSet ns).map fun(k:Nat)=>V.int (k:Int))) (t':=Xz) oG (ml hD) ⟨?_,out.toList,e,?_,by simpa using Fe⟩,rfl,hk _ (I1.bU.fresh (ml hD))⟩
  ·rw[fG];refine gy (List.length_filter_le _ _) ?_;rw[List.length_range,ig];omega
  ·have:=rL hio;rw[fA] at this;exact this
def oW(f:EF):LF:=fun η=>(f η).bind fun d=>match d with
  |.lst ds=>(qe ds).bind fun ns=>if (ns.all fun n=>decide (0≤n)&&decide (n<6))=true then some ((nameSet ns).map fun(k:Nat)=>D.int (k:Int)) else none
  |_=>none
theorem Ax(hc:X.calm=true)(wH:Gl X "sorted")(nX:X.mg "sorted"=none)(hg:Gl X "set")(hm:X.mg "set"=none)(ha:DB X z e f)(hs:starEach [e] X.env=(false,eval e X.env)::starEach [] X.env:=by rfl)(ku:starEach [Expr.Call (.Name "set" p') [e] [] pos'] X.env=(false,eval (.Call (.Name "set" p') [e] [] pos') X.env)::starEach [] X.env:=by rfl):DO X z (.Call (.Name "sorted" p) [.Call (.Name "set" p') [e] [] pos'] [] pos) (oW f):=PE.weak (CJ hc wH nX hg hm ha hs ku) fun σ H Q ⟨η,F,d,r,e,k⟩=>by
  unfold oW at e;obtain⟨d',h1,e⟩:=cR.mp e;cases d' with
  |lst ds =>
   obtain⟨ns,h3,e⟩:=cR.mp e;by_cases hl:(ns.all fun n=>decide (0≤n)&&decide (n<6))=true
   · rw[ay hl] at e;cases e;refine⟨η,F,_,r,h1,fun v H1 F1 g1 q1=>?_⟩;obtain⟨a,ws,rfl,h4,h5⟩:=aK.mp q1;rw[qf h3] at h5;rw[jh h5] at h4;refine⟨a,ns,rfl,h4,fun n hn=>?_,fun l Uu=>?_⟩
     ·have:=eU.mp hl n hn;simpa using this
     · have hz:((nameSet ns).map fun(k:Nat)=>V.int (k:Int)).length≤sizeLine:=by
         rw[fG];refine gy (List.length_filter_le _ _) ?_;rw[List.length_range,ig];omega
       have g4:=aG.own g1.base Uu (.lst ((nameSet ns).map fun(k:Nat)=>V.int (k:Int))) hz rfl;refine k l _ _ F1 (g1.trans g4) (g1.ent.free Uu) (g1.base.sub.free Uu) ax ?_;have:=i6 (K:=X.K) (F:=F1) ((nameSet ns).map fun(k:Nat)=>(k:Int));rw[fA,fA] at this;exact this
   ·rw[az hl] at e;cases e
  |_=>cases e
end
end DL
namespace L2
open PySem PySem.Spec PyProof.Rows PySem.W MB
section
variable {prog:Program} {w:World} {A:Around} {E:fR} {s:Shared}
theorem uU{kS:Addr}{st:SortSt}{e e1:Nat}{out:cv}{P:PySem.Fin→Shared→Prop}(XC:(arrOf st).map (·.2)=List.toArray out)(hz:out.length≤64)(hkz:ks.length≤64)(hf:failedOf st=none)(lX:a≠kS)(hk:s.heap.get? kS=some (seqObj "list" ks.toArray e))(ha:s.heap.get? a=some (seqObj "list" #[] e1))(h:∀h3 h4 ck c2,Heap.SameBut kS s.heap h3→h3.get? kS=some (seqObj "list" #[] ck)→Heap.SameBut a h3 h4→h4.get? a=some (seqObj "list" out.toArray c2)→P (.done (.ret .none)) { s with heap:=h4 }):wpAny (model prog w) A (ksk_tail a false e1 (.ref kS) st) P E s:=by
  have s1:Heap.SameBut kS s.heap (s.heap.update kS (Obj.mapSeq fun _=>(#[]:Array Value))):=pE ..;have Uz:=get?_update_seq hk fun _=>(#[]:Array Value)
  have na:=(s1.2 a lX).trans ha;have few:∀{n:Nat},n≤64→n≤sizeLine:=fun q=>by rw[ig];omega
  unfold ksk_tail;simp only[XC,hf,bne_self_eq_false,uh,jJ];refine aT (listUpdate_at hk rfl (aT (wpAny_letGo (aT (seqEpoch_at na rfl (aT (listUpdate_at na rfl ?_ (iC _) (Nat.le_succ_of_le (few (by rw[eE];omega))))))))) (few (by rw[eE];omega)) (iC _));simp only[bne_self_eq_false,uh,jJ];exact cu (h _ _ _ _ s1 Uz (pE ..) (get?_update_seq na _))
def Ay(prog:Program)(w:World)(A:Around)(E:fR)(κ:SortKind)(lt:Nat→Nat→Bool)(ks vs:cv)(s:Shared):Prop:=∀Q:Unit×SortSt→Shared→Prop,
  (∀(p:Array Nat) (sM:SortSt),arrOf sM=p.map (kas_item (ks.toArray.zip vs.toArray))→failedOf sM=none→bC vs.length p→Up lt p vs.length→Q ((),sM) s)→wpAny (model prog w) A (sortRuns'.run (SortSt.mk' κ (ks.toArray.zip vs.toArray) #[] 7 none)) Q E s
def UA(prog:Program)(w:World)(A:Around)(κ:SortKind)(lt:Nat→Nat→Bool)(ks:cv)(s:Shared):Prop:=∀i j (C:Bool→Shared→Prop),i<ks.length→j<ks.length→C (lt i j) s→wpAny (model prog w) A (keyLt' κ (ks.getD i Value.none) (ks.getD j Value.none)) C (fun _ _=>False) s
theorem GP{κ:SortKind}{lt:Nat→Nat→Bool}{vs:cv}(hl:ks.length=vs.length)(h2:2≤vs.length)(J9:vs.length<64)(dY:UA prog w A κ lt ks s)(hS:j5 vs.length lt):Ay prog w A E κ lt ks vs s:=by
  intro Q hQ;have hw:(kas_sort vs.length).kasWp (kas_ask prog w A κ ks) (fun p tq=>bC vs.length p∧Up lt p vs.length∧tq=s) s:=by
    refine O9 (S:=fun tq=>tq=s) (lt:=lt) (n:=vs.length) (P:=bC vs.length) (fun i j C tq hi hj hs hc=>?_) _ _ (Jd (by omega)) rfl (fun tq hs _=>?_)
    ·subst hs;exact dY i j C (by omega) (by omega) (hc _ rfl)
    ·obtain⟨q1,q2⟩:=MD hS h2;exact⟨q1,q2,hs⟩
  refine mq (kat_run (ks:=ks) (vs:=vs) (Q:=fun sM tq=>∃p:Array Nat,arrOf sM=p.map (kas_item (ks.toArray.zip vs.toArray))∧failedOf sM=none∧bC vs.length p∧Up lt p vs.length∧tq=s)
    hl h2 J9 (fun p sM tq _ e f g=>⟨p,e,f,g.1,g.2.1,g.2.2⟩) hw) ?_ fun _ _ e=>e
  rintro⟨⟨⟩,sM⟩ s' ⟨p,XD,hf,hP,hU,rfl⟩;exact hQ p sM XD hf hP hU
theorem GQ(vs ks:cv)(h:vs.length<2)(hl:ks.length=vs.length):((ks.toArray.zip vs.toArray).map (·.2)).toList=vs:=by
  cases vs with
  |nil=>simp
  |cons v t =>
   cases t with
   |nil=>match ks,hl with|[k],_=>simp
   |cons _ _=>simp only[eT] at h;omega
theorem GR{kS:Addr}{e e1:Nat}{vs:cv}{κ:SortKind}{lt:Nat→Nat→Bool}{P:PySem.Fin→Shared→Prop}(hl:ks.length=vs.length)(J9:vs.length≤64)(lX:a≠kS)(hk:s.heap.get? kS=some (seqObj "list" ks.toArray e))(ha:s.heap.get? a=some (seqObj "list" #[] e1))(kind:2≤vs.length→∀Q:SortKind→Shared→Prop,Q κ s→wpAny (model prog w) A (keyKind' ks.toArray) Q E s)(Ka:2≤vs.length→Ay prog w A E κ lt ks vs s)(fin:∀p h3 h4 ck c2,bC vs.length p→Up lt p vs.length→Heap.SameBut kS s.heap h3→h3.get? kS=some (seqObj "list" #[] ck)→Heap.SameBut a h3 h4→h4.get? a=some (seqObj "list" (List.toArray (p.toList.map fun i=>vs.getD i Value.none)) c2)→P (.done (.ret .none)) { s with heap:=h4 }):wpAny (model prog w) A (ksk_end a false vs.toArray e1 (.ref kS) (List.toArray ks)) P E s:=by
  unfold ksk_end
  try dsimp only
  simp only[uh,jJ];by_cases h2:vs.toArray.size<2
  · rw[ay h2,ay h2];refine aT (cu ?_);rw[StateT.run_pure];refine aT (cu ?_);dsimp only;have Sx:vs.length<2:=by simpa using h2
    refine uU (ks:=ks) (out:=(List.range vs.length).map fun i=>vs.getD i Value.none) ?_ (by simp;omega) (by omega) rfl lX hk ha fun h3 h4 ck c2 a1 a2 a3 a4=>?_
    ·show(ks.toArray.zip vs.toArray).map (·.2)=_;apply Array.toList_inj.mp;rw[mE];exact GQ vs ks Sx hl
    ·refine fin (List.range vs.length).toArray h3 h4 ck c2 (bC.id _) (fun i j pA hj=>by omega) a1 a2 a3 ?_;simpa using a4
  · rw[az h2,az h2];have Sx:2≤vs.length:=by rw[eE] at h2;omega
    refine aT (kind Sx _ ?_);refine aT (Ka Sx _ fun p sM XD hf hP hU=>?_);dsimp only;have hps:p.toList.length=vs.length:=by rw[jc];exact hP.size
    refine uU (ks:=ks) (kat_snds hl XD) (by rw[fG,hps];exact J9) (by omega) hf lX hk ha fun h3 h4 ck c2 a1 a2 a3 a4=>fin p h3 h4 ck c2 hP hU a1 a2 a3 a4
theorem CK{kS:Addr}{e1:Nat}{vs:cv}{f:Value}{κ:SortKind}{lt:Nat→Nat→Bool}{P:PySem.Fin→Shared→Prop}{J:Addr→Nat→cv→Nat→Shared→Prop}(J9:vs.length≤64)(j0:J kS e1 [] 0 s)(get:∀kS e1 ks c s',J kS e1 ks c s'→a≠kS∧s'.heap.get? kS=some (seqObj "list" (List.toArray ks) c)∧s'.heap.get? a=some (seqObj "list" #[] e1))(step:∀kS e1 ks c s' x,J kS e1 ks c s'→vs[ks.length]?=some x→wpAny (model prog w) A (call f [x]) (fun k tq=>tq.heap.get? kS=some (seqObj "list" (List.toArray ks) c)∧∀h2 c2,Heap.SameBut kS tq.heap h2→h2.get? kS=some (seqObj "list" (List.toArray (ks++[k])) c2)→J kS e1 (ks++[k]) c2 { tq with heap:=h2 }) (fun _ _=>False) s')(kind:∀kS e1 ks c s',J kS e1 ks c s'→ks.length=vs.length→2≤vs.length→∀Q:SortKind→Shared→Prop,Q κ s'→wpAny (model prog w) A (keyKind' (List.toArray ks)) Q E s')(Ka:∀kS e1 ks c s',J kS e1 ks c s'→ks.length=vs.length→2≤vs.length→Ay prog w A E κ lt ks vs s')(fin:∀kS e1 ks c s' p h3 h4 ck c2,J kS e1 ks c s'→ks.length=vs.length→bC vs.length p→Up lt p vs.length→Heap.SameBut kS s'.heap h3→h3.get? kS=some (seqObj "list" #[] ck)→Heap.SameBut a h3 h4→h4.get? a=some (seqObj "list" (List.toArray (p.toList.map fun i=>vs.getD i Value.none)) c2)→P (.done (.ret .none)) { s' with heap:=h4 }):wpAny (model prog w) A (ksk_rest a f false vs.toArray e1 (.ref kS)) P E s:=by
  have few:∀{n:Nat},n≤65→n≤sizeLine:=fun q=>by rw[ig];omega
  refine aT (wpAny_rule ?_);rw[List.forIn_toArray];refine aT (ksk_fold (fun i s'=>∃ks c,List.length ks=i∧J kS e1 ks c s') vs 0 s ⟨[],0,rfl,j0⟩ (fun j x s' hx ⟨ks,c,l,q⟩=>?_) fun s' ⟨ks,c,l,q⟩=>?_)
  ·have lj:j<vs.length:=(kJ.mp hx).1;refine aT (wpAny_attempt (mq (step kS e1 ks c s' x q (by rw[l,Nat.zero_add];exact hx)) (fun k tq ⟨hk,nx⟩=>?_) fun _ _ n=>n.elim));have g:=get?_update_seq hk (·.push k);rw[List.push_toArray] at g;exact aT (listUpdate_at hk rfl (cu ⟨rfl,ks++[k],_,by rw[lZ,l];rfl,nx _ _ (pE ..) g⟩) (few (by rw[eE];omega)) (Nat.le_succ_of_le (few (by rw[Array.size_push,eE];omega))))
  ·rw[Nat.zero_add] at l;obtain⟨ne,hk,ha⟩:=get _ _ _ _ _ q;exact aT (listItems_at hk rfl (GR l J9 ne hk ha (fun h2=>kind _ _ _ _ _ q l h2) (Ka _ _ _ _ _ q l) fun p h3 h4 ck c2 b1 b2 b3 b4 b5 b6=>fin _ _ _ _ _ p h3 h4 ck c2 q l b1 b2 b3 b4 b5 b6))
theorem CL{vs:cv}{f:Value}{κ:SortKind}{lt:Nat→Nat→Bool}{P:PySem.Fin→Shared→Prop}{J:Addr→Nat→cv→Nat→Shared→Prop}(ho:s.heap.get? a=some (seqObj "list" vs.toArray n))(J9:vs.length≤64)(init:∀kS e1 h',a≠kS→s.heap.objs.size≤kS→h'.get? kS=some (seqObj "list" #[] 0)→h'.get? a=some (seqObj "list" #[] e1)→(∀b o,b≠a→s.heap.get? b=some o→h'.get? b=some o)→J kS e1 [] 0 { s with heap:=h' })(get:∀kS e1 ks c s',J kS e1 ks c s'→a≠kS∧s'.heap.get? kS=some (seqObj "list" (List.toArray ks) c)∧s'.heap.get? a=some (seqObj "list" #[] e1))(step:∀kS e1 ks c s' x,J kS e1 ks c s'→vs[ks.length]?=some x→wpAny (model prog w) A (call f [x]) (fun k tq=>tq.heap.get? kS=some (seqObj "list" (List.toArray ks) c)∧∀h2 c2,Heap.SameBut kS tq.heap h2→h2.get? kS=some (seqObj "list" (List.toArray (ks++[k])) c2)→J kS e1 (ks++[k]) c2 { tq with heap:=h2 }) (fun _ _=>False) s')(kind:∀kS e1 ks c s',J kS e1 ks c s'→ks.length=vs.length→2≤vs.length→∀Q:SortKind→Shared→Prop,Q κ s'→wpAny (model prog w) A (keyKind' (List.toArray ks)) Q E s')(Ka:∀kS e1 ks c s',J kS e1 ks c s'→ks.length=vs.length→2≤vs.length→Ay prog w A E κ lt ks vs s')(fin:∀kS e1 ks c s' p h3 h4 ck c2,J kS e1 ks c s'→ks.length=vs.length→bC vs.length p→Up lt p vs.length→Heap.SameBut kS s'.heap h3→h3.get? kS=some (seqObj "list" #[] ck)→Heap.SameBut a h3 h4→h4.get? a=some (seqObj "list" (List.toArray (p.toList.map fun i=>vs.getD i Value.none)) c2)→P (.done (.ret .none)) { s' with heap:=h4 }):wpAny (model prog w) A (ksk_tree a f false) P E s:=by
  have em:=get?_update_seq ho fun _=>(#[]:Array Value)
  have few:vs.length≤sizeLine:=by rw[ig];omega
  have z:((s.heap.update a (Obj.mapSeq fun _=>(#[]:Array Value))).push (seqObj "tuple" vs.toArray 0)).objs.size=s.heap.objs.size+1:=(size_push' ..).trans (fS (·+1) (Heap.size_update ..));refine aT (listItems_at ho rfl (aT (listUpdate_at ho rfl (aT (seqEpoch_at em rfl (aT (wpAny_newTuple (aT (wpAny_newList (pI ?_) (iC _))) few)))) few (iC _))));refine CK (J:=J) (κ:=κ) (lt:=lt) J9 (init _ _ _ ?_ ?_ (cT _ rfl) (eo _ (eo _ em)) fun b o n e=>eo _ (eo _ ((Heap.get?_update_ne _ _ _ _ n).trans e))) get step kind Ka fin
  ·exact fun e=>dw (Nat.lt_succ_of_lt (bL ho)) (e.trans z)
  ·exact ml (z.symm▸Nat.lt_succ_self _)
end
section
variable {prog:Program} {w:World} {A:Around} {E:fR} {s:Shared} {d:Addr} {es:Array DictEntry} {ep:Nat}
theorem fB.at(x:fB h d es ep)(k:∀o,h.get? d=some o→h'.get? d=some o):fB h' d es ep:=let ⟨o,ho,r⟩:=x;⟨o,k _ ho,r⟩
theorem fB.lt(x:fB h d es ep):d<h.objs.size:=let ⟨o,ho,r⟩:=x;bL ho
theorem GU(hh:A.handled=none)(I d:Addr)(lX:d≠I)(es:Array DictEntry)(ep:Nat) :
    Walks prog w A I [I,d] [I] es.size (fun i v=>∃e,es[i]?=some e∧v=e.key) (fun i h=>h.IsKeyIter I d i es.size ep∧fB h d es ep) where
  sub:=fun b hb=>by simp at hb;simp[hb]
  frame:=fun _ _ _ st hk=>⟨st.1.at fun o e=>hk I (by simp) o e,st.2.at fun o e=>hk d (by simp) o e⟩
  item:=fun i s Q E hi st hQ=>by refine mD st.1 st.2 hi fun h' wx HB=>?_;exact hQ _ h' s.toks ⟨_,ug hi,rfl⟩ ⟨wx,st.2.at fun o e=>HB.extBut d o lX e⟩ fun b o hb e=>HB.extBut b o (fun h=>hb (by simp[h])) e
  done:=fun s Q E st hQ=>nO hh st.1 st.2 (bG _) fun h' Uy=>hQ h' s.toks fun b o hb e=>Uy b o (fun h=>hb (by simp[h])) e
  self:=fun _ _ _ _ st hQ=>wpAny_pyIter_keyiter st.1 hQ
theorem Nc(lo:(d==sysModules)=false):KdlSrc prog w "dict" d d es.size (fun i v=>∃e,es[i]?=some e∧v=e.key) (fun h=>fB h d es ep) where
  type:=fun _ hm=>let ⟨o,ho,hc,_⟩:=hm;⟨o,ho,hc.1⟩
  there:=fun _ hm=>⟨hm.lt,hm.lt⟩
  keep:=fun _ _ hm hk=>hm.at fun o e=>hk d (.inl rfl) o e
  notList:=by decide
  notTuple:=by decide
  hint:=fun _ _ _ _ hm hq=>kdl_hint_dict (let ⟨o,ho,hc,_⟩:=hm;⟨o,ho,hc.1⟩) hq
  iter:=fun _ _ hh hm=>⟨_,_,(fun _ _ hq=>tD lo hm hq),GU hh _ d (dw hm.lt) es ep,⟨⟨_,cT _ rfl,rfl,rfl⟩,hm.at fun o e=>eo _ e⟩⟩
end
section
variable {X:Cx} {pins:gu} {σ:St} {H:Hp} {s:Shared} {D:Addr} {o:HO}
theorem Inv.adopt(I:Inv X pins σ H s)(f:fQ X pins H D)(h0:X.s₀.heap.objs.size≤D)(new:bR X.prog X.w (upd H D o) s.heap D o):Inv X pins σ (upd H D o) s where
  ok:=I.ok
  os:=I.os
  bare:=I.bare
  base :=
    { keep:=I.base.keep
      slot:=I.base.slot
      free:=fun b u q n hx=>by rw[ai (dw (jX (bL q) h0))];exact I.base.free b u q n hx
      there:=I.base.there
      oB:=fun b xs q=>by have:=I.base.oB b xs q;rw[ai (aP this f.1)];exact this
      oC:=fun b u xs q=>by have:=I.base.oC b u xs q;rw[ai (aP this f.1)];exact this
      rA:=fun b ps q=>by obtain⟨m,e⟩:=I.base.rA b ps q;exact⟨m,by rw[ai (aP e f.1)];exact e⟩ }
  loc:=I.loc
  cell:=I.cell
  free:=by rw[ai (fun z=>f.2.1 z.symm)];exact I.free
  fI:=fun x c e=>by rw[ai (f.2.2.2.2.1 x c e)];exact I.fI x c e
  pin:=fun p hp=>by obtain⟨a1,a2,a3⟩:=I.pin p hp;exact⟨a1,by rw[ai (f.2.2.2.2.2 p hp)];exact a2,a3⟩
  bU:=fun b u e=>by
    by_cases hb:b=D
    ·subst hb;rw[ax] at e;cases e;exact new
    ·rw[ai hb] at e;exact(I.bU b u e).gR (fun c v _ q=>q) (fun c q=>by rw[ai (aP q f.1)];exact q) (fun c xs q=>by rw[ai (aP q f.1)];exact q) fun c q' r=>by rw[ai (aP r f.1)];exact r
  len:=I.len
theorem Inv.Kc(I:Inv X pins σ H s){ob:Obj}(f:fQ X pins H a)(ho:s.heap.get? a=some ob)(hc:∀v,ob.data≠.cell v):Inv X ((a,ob)::pins) σ H s:=by
  refine⟨I.ok,I.os,I.bare,I.base,I.loc,I.cell,I.free,I.fI,fun p hp=>?_,I.bU,I.len⟩;rcases md.mp hp with q|q
  ·exact I.pin p (List.mem_append_left _ q)
  · rcases dm.mp q with rfl|q
    ·exact⟨ho,f.1,f.2.1,f.2.2.1,hc⟩
    ·exact I.pin p (kx _ q)
theorem Inv.CM{q:Addr×Obj}(I:Inv X (q::pins) σ H s):Inv X pins σ H s:=by
  refine⟨I.ok,I.os,I.bare,I.base,I.loc,I.cell,I.free,I.fI,fun p hp=>I.pin p ?_,I.bU,I.len⟩;rcases md.mp hp with z|z
  ·exact List.mem_append_left _ z
  ·exact kx _ (et _ z)
theorem Kd{f:Addr}{ps:dC}{sp:Sp}{Q:VK}(C:mF X.prog X.w X.K X.mg X.base k f ps sp)(hr:cU k X.A.in1.in1)(I:Inv X pins σ H s)(r:Vals vs us)(h:sp vs H Q E0):wpAny (model X.prog X.w) X.A.in1.in1 (call (.ref f) us) (EP X pins σ Q) E s:=by
  obtain⟨fd,F,hb,kp⟩:=C.ex;have hl:us.length=ps.length:=by rw[←r.length];exact F.len _ _ _ _ h
  have e0:zH X.prog X.w X.K X.mg X.base X.A.in1.in1 X.stack s H:={ I.Mi with frames:=I.Mi.frames }
  have Bs:=hb s us I.rg (by simpa using hl);rw[xH] at Bs;refine wpAny_call (codeAny_mono (F.run X.A.in1.in1 X.stack s H ⟨us,[]⟩ us vs Q E0 hr e0 Bs r h) fun r s' hq=>?_);cases r with
  |error e=>exact False.elim hq
  |ok fl =>
   cases fl with
   |ret u=>exact I.after hq
   |_=>exact False.elim hq
end
end L2
namespace DL
open PySem PySem.Spec L2 PySem.W MB
open PyProof.Rows hiding St pairAt
section
variable {X:Cx} {pins:gu} {σ:St} {H:Hp} {s:Shared}
theorem GV{vk:List V}{ds:By}{Q:SortKind→Shared→Prop}(I:Inv X pins σ H s)(rv:Vals vk ks)(hp:Paired (pairAt H) vk ds)(h2:2≤ks.length)(hq:Q (tuples' true) s):wpAny (model X.prog X.w) A (keyKind' (List.toArray ks)) Q E s:=by
  have l1:vk.length=ks.length:=rv.length;have oB:∀(vl:cv),(∀v∈vl,∃a n t q,v=.ref a∧IsTup s.heap a [Value.int n t,Value.ref q].toArray)→∃fs:cv,KatTups s.heap vl fs∧fs.length=vl.length∧∀v∈fs,∃n t,v=.int n t:=by
    intro vl;induction vl with
    |nil=>intro _;exact⟨[],trivial,rfl,fun _ z=>nomatch z⟩
    |cons v r ih =>
     intro hv;obtain⟨a,n,t,q,rfl,o,e,c,m,dd⟩:=hv v eR;obtain⟨fs,k1,k2,k3⟩:=ih fun y hy=>hv y (et _ hy);refine⟨.int n t::fs,⟨⟨a,o,_,m,rfl,e,c,dd,rfl⟩,k1⟩,by simp[k2],fun y hy=>?_⟩;rcases dm.mp hy with z|z
     ·exact⟨n,t,z⟩
     ·exact k3 y z
  obtain⟨fs,k1,k2,k3⟩:=oB ks (fun v hv=>by
    obtain⟨i,hi,rfl⟩:=List.mem_iff_getElem.mp hv;obtain⟨a,q,t,js,e1,e2,_⟩:=rO I (cJ rv (by omega) V.non Value.none) (cJ hp (i:=i) (by omega) V.non (0,[]));rw[jb,eP hi] at e1;exact⟨a,_,t,q,e1,e2⟩)
  refine kat_kind (T:=.type "int") k1 (by omega) (fun v hv=>?_) rfl ?_
  ·obtain⟨n,t,rfl⟩:=k3 v hv;exact Looks.of_pure rfl
  ·exact hq
theorem Nf{vk:List V}{ds:By}{C:Bool→Shared→Prop}(V0:A.units<cLine)(I:Inv X pins σ H s)(rv:Vals vk ks)(hp:Paired (pairAt H) vk ds)(hi:i<ks.length)(hj:j<ks.length)(hc:C (kB (ds.getD i (0,[])) (ds.getD j (0,[]))) s):wpAny (model X.prog X.w) A (keyLt' (tuples' true) (ks.getD i Value.none) (ks.getD j Value.none)) C (fun _ _=>False) s:=by
  have l1:vk.length=ks.length:=rv.length;obtain⟨a,q,t,js,e1,e2,e3,e4⟩:=rO I (cJ rv (i:=i) (by omega) V.non Value.none) (cJ hp (i:=i) (by omega) V.non (0,[]));obtain⟨b,q',t',js',f1,f2,f3,f4⟩:=rO I (cJ rv (i:=j) (by omega) V.non Value.none) (cJ hp (i:=j) (by omega) V.non (0,[]));rw[e1,f1];obtain⟨oa,ga,_,na,da⟩:=id e2;obtain⟨ob,gb,_,nb,db⟩:=id f2;refine kat_lt ga da gb db ?_;refine kat_cons (SeqAt.EqAt.int_int _ _ _ _ _ _ _ _ (kat_go (fun e=>kat_yes ?_) (fun e=>kat_no ?_)))
  · have pA:(ds.getD i (0,[])).1=(ds.getD j (0,[])).1:=by simpa using e
    have Hu:C (HT.lexLt (ds.getD i (0,[])).2 (ds.getD j (0,[])).2) s:=by have e5:kB (ds.getD i (0,[])) (ds.getD j (0,[]))=HT.lexLt (ds.getD i (0,[])).2 (ds.getD j (0,[])).2:=ay pA;rw[←e5];exact hc
    refine kat_cons (Gx e3 f3 e4 f4 V0 _ _ _ _ (kat_go (fun e'=>kat_yes (kat_nil ?_)) (fun e'=>kat_no ?_)))
    · have e6:(ds.getD i (0,[])).2=(ds.getD j (0,[])).2:=by simpa using e'
      rw[e6,kO] at Hu;exact Hu
    ·refine kat_one _ _ ?_;refine HT.BX e3 f3 (by simpa using intsAre_of e4) (by simpa using intsAre_of f4) V0 ?_;exact Hu
  · have pA:¬ (ds.getD i (0,[])).1=(ds.getD j (0,[])).1:=by simpa using e
    refine oneLt_int ?_;have e5:kB (ds.getD i (0,[])) (ds.getD j (0,[]))=decide ((ds.getD i (0,[])).1<(ds.getD j (0,[])).1):=az pA;rw[←e5];exact hc
def Ke(H:Hp)(v:V)(e:Int×bK):Prop:=∃b,v=.ref b∧H b=some (.tup (e.2.map V.int))
end
section
variable {X:Cx} {pins:gu} {σ:St} {H:Hp} {s:Shared}
theorem fQ.re(f:fQ X pins H b)(hn:H' b=none):fQ X pins H' b:=⟨hn,f.2⟩
theorem se{xs:Array Value}:∀v,(seqObj "list" xs n).data≠.cell v:=fun v z=>by cases z
def Az(ds:By):Prop:=∀(prog:Program) (w:World) (A:Around) (E:fR) (ks vs:cv) (s:Shared),ks.length=ds.length→vs.length=ds.length→2≤ds.length→UA prog w A (tuples' true) (fun i j=>kB (ds.getD i (0,[])) (ds.getD j (0,[]))) ks s→Ay prog w A E (tuples' true) (fun i j=>kB (ds.getD i (0,[])) (ds.getD j (0,[]))) ks vs s
theorem uV{ds:By}(J0:ds.Nodup)(J9:ds.length<64):Az ds:=fun prog w A E ks vs s h1 h2 h3 dY=>by refine GP (by omega) (by omega) (by omega) dY ?_;have:=wy J0;rw[h2];exact this
theorem yx{Q:VK}{ps:dC}{ds:By}{kv:List V}{acc:cv}{tk:Nat}(hu:X.A.units+5<cLine)(C:mF X.prog X.w X.K X.mg X.base k fn ps (gG X.K [true] Fn))(hr:cU k X.A.in1.in1)(I:Inv X pins σ H s)(b0:Base F H)(hF:∀e∈ds,Fn [.tup (e.2.map D.int)]=some (.sh (mM e)))(J0:ds.Nodup)(J9:ds.length≤64)(Uo:Az ds)(hk:∀b o,s.heap.get? b=some o→h'.get? b=some o)(SG:Vals kv acc)(uW:Paired (Ke H) kv ds){P:PySem.Fin→Shared→Prop}(XE:∀v s',EP X pins σ Q v s'→P (.done (.ret v)) s')(post:∀p vs H' F',aG F H F' H'→H p=none→F' p=none→H' p=some (.lst vs)→bz X.K F' ((mN ds).map fun e=>D.tup (e.2.map D.int)) vs→Q (.ref p) H'):wpAny (model X.prog X.w) X.A.in1 (newList acc>>=fun l=>holding [l] (call (.builtin "list.sort") [l] [(Str.ofString "key",.ref fn)])>>=fun _=>ret l) P X.xe { s with heap:=h',toks:=tk }:=by
  have l1:=pJ uW;have hl:acc.length=ds.length:=by rw[←l1];exact(SG.length).symm
  have lkv:kv.length=ds.length:=l1;refine aT (wpAny_newList ?_ (by rw[hl,ig];omega));have I0:Inv X pins σ H { s with heap:=h',toks:=tk }:=I.kept (t':=tk) hk;have OZ:(h'.push (seqObj "list" acc.toArray 0)).get? h'.objs.size=some (seqObj "list" acc.toArray 0):=cT _ rfl;have hDn:H h'.objs.size=none:=I0.bU.fresh (bG _);have fD:fQ X pins H h'.objs.size:=I0.tm (bG _) hDn;have hD0:X.s₀.heap.objs.size≤h'.objs.size:=I0.sz;have hold:∀b o,h'.get? b=some o→b≠h'.objs.size:=fun b o q=>dw (bL q);show wpAny _ _ _ _ _ { s with heap:=h'.push (seqObj "list" acc.toArray 0),toks:=tk };have acz:(h'.push (seqObj "list" acc.toArray 0)).objs.size=h'.objs.size+1:=size_push' ..;have I1:Inv X pins σ H { s with heap:=h'.push (seqObj "list" acc.toArray 0),toks:=tk }:=I0.kept (t':=tk) fun b o q=>eo _ q;generalize hDD:h'.objs.size=D at *;refine aT (pI (wpAny_call_entry_kw slot_list_sort ⟨_,OZ,rfl⟩ entry_list_sort ?body (ksk_l1 _ _)))
  case body =>
    show wpAny (model X.prog X.w) X.A.in1.in1 (Builtin.«list.sort» ⟨[.ref D],[(Str.ofString "key",.ref fn)]⟩) _ _ _;rw[ksk_t1];refine CL (vs:=acc) (κ:=tuples' true) (lt:=fun i j=>kB (ds.getD i (0,[])) (ds.getD j (0,[])))
      (J:=fun kS e1 ks c s'=>D≠kS∧∃H' F' vk,Inv X ((kS,seqObj "list" ks.toArray c)::(D,seqObj "list" #[] e1)::pins) σ H' s'∧aG F H F' H'∧Vals vk ks∧Paired (pairAt H') vk (ds.take ks.length) ∧
        fQ X ((D,seqObj "list" #[] e1)::pins) H kS) OZ (by omega) ?init ?get ?step ?kind ?run ?fin
    case init =>
      intro kS e1 h2 lX hsz g1 g2 keep;have I2:Inv X pins σ H { s with heap:=h2,toks:=tk }:=I0.kept (t':=tk) fun b o q=>keep b o (hold b o q) (eo _ q);have f0:fQ X pins H kS:=I1.tm hsz (I1.bU.fresh hsz);have fk:fQ X ((D,seqObj "list" #[] e1)::pins) H kS:=⟨f0.1,f0.2.1,f0.2.2.1,f0.2.2.2.1,f0.2.2.2.2.1,fun p hp=>by
        rcases md.mp hp with q|q
        ·exact f0.2.2.2.2.2 p (List.mem_append_left _ q)
        · rcases dm.mp q with rfl|q
          ·exact lX
          ·exact f0.2.2.2.2.2 p (kx _ q)⟩
      exact⟨lX,H,F,[],(I2.Kc fD g2 se).Kc fk g1 se,aG.refl b0,.nil,by simpa using Paired.nil,fk⟩
    case get =>
      rintro kS e1 ks c s' ⟨lX,H',F',vk,I',_⟩;exact⟨lX,(I'.pin (kS,_) (kx _ eR)).1,(I'.pin (D,_) (kx _ (et _ eR))).1⟩
    case step =>
      rintro kS e1 ks c s' x ⟨lX,H',F',vk,I',g,rk,hp,fk⟩ hx;have hi:ks.length<acc.length:=by
        rcases Nat.lt_or_ge ks.length acc.length with q|q
        ·exact q
        ·rw[BE q] at hx;cases hx
      have ra:=cJ SG (i:=ks.length) (by omega) V.non Value.none;obtain⟨b,q1,q2⟩:=cJ uW (i:=ks.length) (by omega) V.non (0,[]);rw[q1,jb,hx] at ra;have hxb:x=.ref b:=ra;subst hxb;have QI:ks.length<ds.length:=by omega
      have hee:ds.getD ks.length (0,[])=ds[ks.length]:=by rw[jb,eP QI];rfl
      rw[hee] at q2;have den:Den X.K F' (.tup (ds[ks.length].2.map DL.D.int)) (.ref b):=aI.mpr ⟨b,_,rfl,g.base.tup _ _ (g.ent _ _ q2) rfl,i6 _⟩;refine mq (Kd (Q:=fun v H2=>∃F2,aG F' H' F2 H2∧Den X.K F2 (mM ds[ks.length]) v) C hr I' (vs:=[.ref b]) (.cons rfl .nil) ⟨F',[.tup (ds[ks.length].2.map DL.D.int)],.sh (mM ds[ks.length]),g.base,⟨den,trivial⟩,hF _ (List.getElem_mem QI),fun v H2 F2 g2 dn=>⟨F2,g2,dn⟩⟩) (fun k tq hq=>?_) fun _ _ x=>x;obtain⟨v,H2,I2,rv,F2,g2,dn⟩:=hq;have Rj:=I2.pin (kS,_) (kx _ eR);refine⟨Rj.1,fun h2 c2 sb gk=>⟨lX,H2,F2,vk++[v],?_,g.trans g2,rk.append (.cons rv .nil),?_,fk⟩⟩
      ·have HD:=fQ.re fk Rj.2.1;have I3:=Inv.turned (t':=tq.toks) (h':=h2) (it:=kS) I2.CM (fun b o hb e=>by rw[sb.2 b hb];exact e) HD.1 HD.2.1 HD.2.2.2.1 HD.2.2.2.2.1 HD.2.2.2.2.2;exact I3.Kc HD gk se
      ·rw[lZ,List.length_singleton,List.take_succ_eq_append_getElem QI];exact Paired.snoc (Paired.HG hp fun a b q=>q.same g2.ent) ((JH.mp dn).same g2.base.sub)
    case kind =>
      rintro kS e1 ks c s' ⟨lX,H',F',vk,I',g,rk,hp,fk⟩ hlen h2 Q' hq;exact GV I' rk hp (by omega) hq
    case run =>
      rintro kS e1 ks c s' ⟨lX,H',F',vk,I',g,rk,hp,fk⟩ hlen h2;rw[List.take_of_length_le (by omega)] at hp;refine Uo _ _ _ _ _ _ _ (by omega) (by omega) (by omega) (fun i j C' hi hj hC=>?_);exact Nf (by rw[in1_units,in1_units];omega) I' rk hp (by omega) (by omega) hC
    case fin =>
      rintro kS e1 ks c s' p h3 h4 ck c2 ⟨lX,H',F',vk,I',g,rk,hp,fk⟩ hlen hP hU sb1 gk sb2 gD;have Rj:=I'.pin (kS,_) (kx _ eR);have hpD:=I'.pin (D,_) (kx _ (et _ eR));have HD:fQ X pins H' kS:=⟨Rj.2.1,fk.2.1,fk.2.2.1,fk.2.2.2.1,fk.2.2.2.2.1,fun p hp=>fk.2.2.2.2.2 p (by
        rcases md.mp hp with q|q
        ·exact List.mem_append_left _ q
        ·exact kx _ (et _ q))⟩
      have Pq:fQ X pins H' D:=fQ.re fD hpD.2.1;have I4:=Inv.turned (t':=s'.toks) (h':=h3) (it:=kS) I'.CM.CM (fun b o hb e=>by rw[sb1.2 b hb];exact e) HD.1 HD.2.1 HD.2.2.2.1 HD.2.2.2.2.1 HD.2.2.2.2.2;have I5:=Inv.turned (t':=s'.toks) (h':=h4) (it:=D) I4 (fun b o hb e=>by rw[sb2.2 b hb];exact e) Pq.1 Pq.2.1 Pq.2.2.2.1 Pq.2.2.2.2.1 Pq.2.2.2.2.2;rw[hl] at hP hU;have hm:∀i∈p.toList,i<ds.length:=fun i hi=>by have:=(Array.perm_iff_toList_perm.mp hP.perm).mem_iff.mp hi;simpa using this
      have Pr:(p.toList.map fun i=>kv.getD i V.non).length≤sizeLine:=by rw[fG,jc,hP.size,ig];omega
      have I6:=Inv.adopt (o:=.lst (p.toList.map fun i=>kv.getD i V.non)) I5 Pq hD0 ⟨Pr,p.toList.map fun i=>acc.getD i Value.none,c2,oJ _ _ fun i hi=>cJ SG (by have:=hm i hi;omega) _ _,by simpa using gD⟩;have e0:mN ds=p.toList.map fun i=>ds.getD i (0,[]):=JG J0 (MF _ hP) (Ab (0,[]) kB hP hU);refine⟨_,rfl,cu (XE _ _ ⟨.ref D,_,I6,rfl,post D _ _ F' (g.trans (aG.own g.base Pq.1 (.lst (p.toList.map fun i=>kv.getD i V.non)) Pr rfl)) hDn (g.base.sub.free Pq.1) ax ?_⟩)⟩;rw[e0,fA];refine pX.mpr (oJ _ _ fun i hi=>?_);obtain⟨b,q1,q2⟩:=cJ uW (i:=i) (by have:=hm i hi;omega) V.non (0,[]);rw[q1];exact aI.mpr ⟨b,_,rfl,g.base.tup _ _ (g.ent _ _ q2) rfl,i6 _⟩
theorem yy{Q:VK}{ps:dC}{ws:List (List Key×V)}{ds:By}(hc:X.calm=true)(hu:X.A.units+5<cLine)(C:mF X.prog X.w X.K X.mg X.base k fn ps (gG X.K [true] Fn))(hr:cU k X.A.in1.in1)(I:Inv X pins σ H s)(b0:Base F H)(hd:Rd H d (.dT ws))(hw:ws.map (·.1)=ds.map fun e=>e.2.map Sum.inl)(hF:∀e∈ds,Fn [.tup (e.2.map D.int)]=some (.sh (mM e)))(J0:ds.Nodup)(J9:ds.length<64)(post:∀p vs H' F',aG F H F' H'→H p=none→F' p=none→H' p=some (.lst vs)→bz X.K F' ((mN ds).map fun e=>D.tup (e.2.map D.int)) vs→Q (.ref p) H'):wpAny (model X.prog X.w) X.A (call (.builtin "sorted") [.ref d] [(Str.ofString "key",.ref fn)]) (EP X pins σ Q) X.xe s:=by
  obtain⟨z,y,xs,r,o,es,ep,h1,h2,h3,h4,h5⟩:=(show bR X.prog X.w H s.heap d (.dT ws) from IA I.bU hd)
  have hh:X.A.handled=none:=I.ok.hd hc;have lw:ws.length=ds.length:=by have:=fS List.length hw;simpa using this
  have lx:xs.length=ws.length:=(pJ r).symm;have yr:es.size=ds.length:=by have e1:=fS List.length h4;rw[fG,jc] at e1;omega
  -- the keys as values
  have uW:Paired (Ke H) (xs.map fun q=>V.ref q.2.1) ds:=by
    have key:∀{l:List (List Key×V)} {m:List (List Key×Addr×Value)} {e:By},Paired (fun(p:List Key×V) (q:List Key×Addr×Value)=>p.1=q.1∧H q.2.1=some (.tup (p.1.map kV))∧RelV p.2 q.2.2) l m→l.map (·.1)=e.map (fun e=>e.2.map Sum.inl)→Paired (Ke H) (m.map fun q=>V.ref q.2.1) e:=by
      intro l m e hp;induction hp generalizing e with
      |nil=>intro q;cases e with
       |nil=>exact .nil
       |cons _ _=>cases q
      |cons a _ ih =>
       intro q;cases e with
       |nil=>cases q
       |cons e0 er=>rw[cB,cB] at q;injection q with q1 q2;refine .cons ⟨_,rfl,?_⟩ (ih q2);rw[a.2.1,q1,fA];rfl
    exact key r hw
  refine call_function_entry_kw kind_sorted plain_sorted entry_sorted (ksk_s1 _ _) ?_;unfold Builtin.«sorted»;refine aT (m:=checkCount "sorted" 1 1 _) (cu ?_);refine aT (kdu_collect (A:=X.A.in1) (Nc y) hh ⟨o,h1,h2,h3⟩ (by rw[yr,ig];omega) fun h' tk acc hk tG=>?_);have hl:acc.toList.length=ds.length:=by rw[jc,tG.1,yr]
  have hv:acc.toList=xs.map fun q=>Value.ref q.2.1:=by
    have e1:acc.toList=es.toList.map (·.key):=by
      refine List.ext_getElem? fun j=>?_;rw[eS,v3,v3];cases hj:acc[j]? with
      |some v=>obtain⟨e,q1,q2⟩:=tG.2 j v hj;rw[q1,q2];rfl
      |none=>rw[Array.getElem?_eq_none_iff,tG.1] at hj;rw[BD hj];rfl
    rw[e1,h4,fA];rfl
  have SG:Vals (xs.map fun q=>V.ref q.2.1) acc.toList:=by
    rw[hv];clear hv uW h4 h5 r lx;induction xs with
    |nil=>exact .nil
    |cons x xs ih=>exact .cons rfl ih
  generalize hV:(xs.map fun q=>V.ref q.2.1)=kv at uW SG;have lkv:kv.length=ds.length:=by rw[←hV,fG];omega
  exact yx hu C hr I b0 hF J0 (by omega) (uV J0 J9) hk SG uW (fun v s' q=>⟨_,rfl,q⟩) post
end
def nB:List Key→Option bK
  |[]=>some []
  |.inl i::r=>(nB r).map (i::·)
  |_=>none
theorem uX:∀{k:List Key} {t:bK},nB k=some t→k=t.map Sum.inl
  |[],t,h=>by cases h;rfl
  |.inl i::r,t,h=>by obtain⟨u,h1,rfl⟩:=iB.mp h;rw[uX h1];rfl
  |.inr _::_,_,h=>by cases h
def uY(Fn:eZ→eY)(t:bK):Option (Int×bK):=match Fn [.tup (t.map D.int)] with
  |some (.sh (.tup [.int l,.tup us]))=>if qe us=some t then some (l,t) else none
  |_=>none
theorem GW{t:bK}{e:Int×bK}(h:uY Fn t=some e):e.2=t∧Fn [.tup (e.2.map D.int)]=some (.sh (mM e)):=by
  unfold uY at h;split at h
  · rename_i l us heq;split at h
    ·rename_i hu;cases h;refine⟨rfl,?_⟩;show Fn [.tup (t.map D.int)]=_;rw[heq,qf hu];rfl
    ·cases h
  ·cases h
def qu(Fn:eZ→eY):List (List Key×D)→Option By
  |[]=>some []
  |kv::r=>(nB kv.1).bind fun t=>(uY Fn t).bind fun e=>(qu Fn r).map (e::·)
theorem uZ{Fn:eZ→eY}:∀{ao:List (List Key×D)} {ds:By},qu Fn ao=some ds→ao.map (·.1)=ds.map (fun e=>e.2.map Sum.inl)∧∀e∈ds,Fn [.tup (e.2.map D.int)]=some (.sh (mM e))
  |[],ds,h=>by cases h;exact⟨rfl,fun _ z=>nomatch z⟩
  |kv::r,ds,h=>by
   obtain⟨t,h1,h⟩:=cR.mp h;obtain⟨e,h2,h⟩:=cR.mp h;obtain⟨Bu,h3,rfl⟩:=iB.mp h;obtain⟨a1,a2⟩:=uZ h3;obtain⟨b1,b2⟩:=GW h2;refine⟨by rw[cB,cB,a1,uX h1,b1],fun x hx=>?_⟩;rcases dm.mp hx with rfl|hx
   ·exact b2
   ·exact a2 x hx
theorem CN{κ:Type}{K:PySem.W.Frag}{ao:List (κ×D)}{ws:List (κ×V)}(h:bV K F ao ws):ao.map (·.1)=ws.map (·.1):=by
  unfold bV at h;induction h with
  |nil=>rfl
  |cons a _ ih=>rw[cB,cB,a.1,ih]
section
variable {X:Cx} {z:Zc} {pos p px py kp:Pos}
def yz(i:Nat)(Fn:eZ→eY):LF:=fun η=>(dT i η).bind fun ao=>(qu Fn ao).bind fun ds=>if ds.Nodup∧ds.length<64 then some ((mN ds).map fun e=>D.tup (e.2.map D.int)) else none
theorem Kf(i:Nat){y:Str}{ps:dC}(hc:X.calm=true)(hu:X.A.units+5<cLine)(C:mF X.prog X.w X.K X.mg X.base k fn ps (gG X.K [true] Fn))(hr:cU (k+2) X.A)(wH:Gl X "sorted")(nX:X.mg "sorted"=none)(hg:Gl X y)(hm:X.mg y=some (.ref fn))(hN:X.N[i]?=some x:=by rfl)(hv:pL X.env.scope x:=by first|exact Or.inl rfl|exact Or.inr (Or.inl rfl)|exact Or.inr (Or.inr rfl))(iE:(x==("__debug__":Str))=false:=by decide)(dR:(x==("__classdict__":Str))=false:=by decide)(hdy:(y==("__debug__":Str))=false:=by decide)(hs:starEach [Expr.Name x px] X.env=(false,eval (.Name x px) X.env)::starEach [] X.env:=by rfl):DO X z (.Call (.Name "sorted" p) [.Name x px] [⟨some "key",.Name y py,kp⟩] pos) (yz i Fn):=by
  intro pins s σ H Q I ⟨η,F,Bu,rl,e,kk⟩;unfold yz at e;obtain⟨ao,h1,e⟩:=cR.mp e;obtain⟨ds,h2,e⟩:=cR.mp e;by_cases hl:ds.Nodup∧ds.length<64
  ·rw[ay hl] at e;cases e;obtain⟨q,ws,h3,h4,h5⟩:=JK rl h1;obtain⟨a1,a2⟩:=uZ h2;refine sZ (gU I wH nX w6 ?_ (by decide) (by decide));refine PyProof.Rows.callWith_kw ?_ (by rw[hs];rfl) (by rw[hs];rfl) rfl rfl;refine cQ (aW (cM hN hv iE dR) cN hs pos pins s σ H (fun vs H1=>vs=[.ref q]∧H1=H) I ⟨_,h3,⟨rfl,rfl⟩⟩) fun us s1 ⟨vs,H1,I1,r1,e1,e2⟩=>?_;subst e1 e2;obtain⟨u,rfl,ru⟩:=vals1 r1;cases ru;show wpAny _ _ (evalAll ((do let v ←eval (.Name y py) X.env;standAt pos;pure v)::[])) _ _ s1;refine wpAny_evalAll_cons (aT (pM I1 hg hm (aT (wpAny_standAt (cu ?_))) hdy));refine wpAny_evalAll_nil ?_;exact yy hc hu C hr.in1.in1 I1 rl.base h4 ((CN h5).symm.trans a1) a2 hl.1 hl.2 fun p vs H' F' g q1 q2 q3 q4=>kk p vs H' F' g q1 q2 q3 q4
  ·rw[az hl] at e;cases e
end
end DL
namespace DL
open PySem PySem.Spec L2
open PyProof.Rows hiding St pairAt
section
variable {X:Cx} {z:Zc} {e:Expr} {f:EF} {pos:Pos}
def lN(f:EF):SF:=fun η=>(f η).map fun _=>.nx η
theorem qw(h:DE X z e f)(hs:swapsWith e none pos.line X.env=pure false:=by rfl):DS X z (.Expr e pos) (lN f):=PS.weak (kL h hs) fun D σ H ⟨η,F,o,r,e,k⟩=>by unfold lN at e;obtain⟨d,h1,rfl⟩:=iB.mp e;exact⟨η,F,d,r,h1,fun v H' F' g q=>k σ H' F' (r.grow g) g.cz⟩
theorem yA{n:Int}(hg:Gl X x)(hm:∃t,X.mg x=some (.int n t))(hd:(x==("__debug__":Str))=false:=by decide):DE X z (.Name x pos) (eC (.int n)):=by intro pins s σ H Q I ⟨η,F,d,r,e,k⟩;cases e;obtain⟨t,hm⟩:=hm;exact pM I hg hm ⟨.int n,H,I,⟨t,rfl⟩,k _ H F (aG.refl r.base) (aD.mpr rfl)⟩ hd
end
end DL
namespace L2
open PySem PySem.Spec PyProof.Rows
section
variable {X:Cx}
def Ng:V→List V→Hp→VK→Prop:=fun x vs H Q=>∃l xs y,∃(i:Int) (k:Nat),x=.ref l∧vs=[.int i,y]∧i=(k:Int)∧H l=some (.lst xs)∧k≤xs.length∧xs.length<10000∧Q .non (upd H l (.lst (xs.take k++y::xs.drop k)))
theorem GX:VN X "list.insert" Ng:=by
  intro pins s σ H x vs v us Q I rx rv h;obtain⟨l,xs,y,i,k,rfl,rfl,hi,hH,hk,hz,q⟩:=h;cases rx;obtain⟨u1,u2,rfl,ru1,ru2⟩:=vals2 rv;obtain⟨t,rfl⟩:=ru1;obtain⟨z,its,n,r,hl,e⟩:=I.Mq hH;have hf:Builtin.List.listFitsIndex i=true:=fitsIndex_both (by omega) (by omega);have XF:¬ (!Builtin.List.listFitsIndex i)=true:=by rw[hf];exact gP
  have hsz:its.toArray.size≤sizeLine:=by rw[eE];omega
  have e1:(if i<0 then(i+((its.toArray.size:Nat):Int)).toNat else min i.toNat its.toArray.size)=k:=by rw[az (by omega),eE];omega
  refine call_meets PySem.F.slot_list_insert ⟨_,e,rfl⟩ PySem.F.entry_list_insert (PySem.F.args_list_insert_3 _ _ _) (PySem.AutoSeq1.list_insert_list_int_val_1 l _ n i t u2 XF hsz) ⟨e,?_⟩;refine⟨.non,_,I.Mp (its':=its.take k++u2::its.drop k) hH e ?_ ((r.take k).append (.cons ru2 (r.drop k))) ?_,rfl,q⟩
  · show(its.toArray.extract 0 (if i<0 then(i+((its.toArray.size:Nat):Int)).toNat else min i.toNat its.toArray.size)).push u2++its.toArray.extract (if i<0 then(i+((its.toArray.size:Nat):Int)).toNat else min i.toNat its.toArray.size) its.toArray.size=_;rw[e1];apply Array.toList_inj.mp;simp[Array.toList_extract,List.extract_eq_take_drop]
    try exact List.take_of_length_le (by simp)
  ·rw[lZ,eT,List.length_take,List.length_drop,ig];omega
end
end L2
namespace DL
open PySem PySem.Spec L2
open PyProof.Rows hiding St pairAt
section
variable {X:Cx} {z:Zc} {e a b:Expr} {f fa fb fk:EF} {pos p:Pos} {K:PySem.W.Frag} {F:Hp}
def mP:eZ→eZ→eZ
  |x::xs,y::ys=>.tup [x,y]::mP xs ys
  |_,_=>[]
theorem AA:∀{xs ys:eZ} {i:Nat} {d:D},(mP xs ys)[i]?=some d→∃x y,xs[i]?=some x∧ys[i]?=some y∧d=.tup [x,y]
  |[],_,i,d,h=>by cases i<;>cases h
  |_::_,[],i,d,h=>by cases i<;>cases h
  |x::xs,y::ys,0,d,h=>by cases h;exact⟨x,y,rfl,rfl,rfl⟩
  |x::xs,y::ys,i+1,d,h=>by obtain⟨u,v,h1,h2,h3⟩:=AA (xs:=xs) (ys:=ys) (i:=i) (by simpa[mP] using h);exact⟨u,v,by simpa using h1,by simpa using h2,h3⟩
theorem qx:∀(xs ys:eZ),(mP xs ys).length=min xs.length ys.length
  |[],ys=>by simp[mP]
  |_::_,[]=>by simp[mP]
  |x::xs,y::ys=>by simp[mP,qx xs ys]
theorem Kg{a b:Addr}{ws:List V}{es:eZ}(ha:gw K F a vs)(hb:gw K F b ws)(hd:bz K F ds vs)(he:bz K F es ws)(hl:ds.length≤sizeLine):Walk K z F (Xi K a b vs ws) true (mP ds es) where
  go:=fun F' H' s g i hi=>by rw[qx] at hi;have l1:=aJ hd;have l2:=aJ he;exact⟨ji (s.trans g.base.sub) ha,ji (s.trans g.base.sub) hb,by omega,by omega⟩
  BI:=fun F' H' s g i d x Bv e y=>by obtain⟨q,u,v,rfl,hq,rfl,h1,h2⟩:=y;obtain⟨x1,x2,e1,e2,rfl⟩:=AA e;obtain⟨d1,f1,f2⟩:=iZ hd h1;obtain⟨d2,f3,f4⟩:=iZ he h2;rw[e1] at f1;cases f1;rw[e2] at f3;cases f3;have g2:=aG.put g.base hq (.tup [u,v]) (show([u,v]:List V).length≤sizeLine by rw[ig];simp);exact⟨_,g2,aI.mpr ⟨q,_,rfl,ax,av.mpr ⟨_,_,rfl,aL (s.trans g2.cz) _ _ f2,il (aL (s.trans g2.cz) _ _ f4)⟩⟩⟩
  stop:=fun F' H' s g=>by have l1:=aJ hd;have l2:=aJ he;refine⟨ji (s.trans g.base.sub) ha,ji (s.trans g.base.sub) hb,?_⟩;rw[qx];omega
  len:=by rw[qx];omega
def Rk(fa fb:EF):LF:=fun η=>(fa η).bind fun x=>(fb η).bind fun y=>match x,y with|.tup ds,.tup es=>some (mP ds es)|_,_=>none
theorem Rl{uk:Pos}(hg:Gl X "zip")(hm:X.mg "zip"=none)(ha:DE X z a fa)(hb:DE X z b fb)(hs:starEach [a,b] X.env=(false,eval a X.env)::starEach [b] X.env:=by rfl)(ku:starEach [b] X.env=(false,eval b X.env)::starEach [] X.env:=by rfl)(hs3:starEach [] X.env=[]:=by rfl):DI X z (.Tuple elts k uk) (.Call (.Name "zip" p) [a,b] [] pos) true (Rk fa fb):=PI.weak (QH hg hm (aW ha (aW hb cN ku) hs) (by rw[hs,ku,hs3]) (by rw[ku,hs3])) fun σ H R ⟨η,F,ds,r,e,k⟩=>by
  unfold Rk at e;obtain⟨x,h1,e⟩:=cR.mp e;obtain⟨y,h2,e⟩:=cR.mp e;cases x with
  |tup ds =>
   cases y with
   |tup es=>cases e;refine⟨η,F,_,r,h1,fun v1 H1 F1 g1 q1=>⟨η,F1,_,r.grow g1,h2,fun v2 H2 F2 g2 q2=>?_⟩⟩;obtain⟨a1,vs,rfl,a2,a3⟩:=aI.mp (aL g2.cz _ _ q1);obtain⟨b1,ws,rfl,b2,b3⟩:=aI.mp q2;refine⟨a1,b1,vs,ws,rfl,gw.of (g2.base.sub _ _ a2),gw.of (g2.base.sub _ _ b2),k _ _ F2 (g1.trans g2) (Kg (gw.of a2) (gw.of b2) a3 b3 ?_)⟩;rw[aJ a3];exact g2.base.sR _ _ (g2.base.sub _ _ a2)
   |_=>cases e
  |_=>cases e
def qy(i:Nat)(fk f:EF):SF:=fun η=>(fk η).bind fun k=>(f η).bind fun d=>match η[i]?,k with
  |some (some (.ol ds)),.int j=>if 0≤j∧j.toNat≤ds.length∧ds.length<10000 then some (.nx (η.set i (some (.ol (ds.take j.toNat++d::ds.drop j.toNat))))) else none
  |_,_=>none
theorem GY(i:Nat){e2:Expr}(hk:DE X z e fk)(h:DE X z e2 f)(hN:X.N[i]?=some x:=by rfl)(hv:pL X.env.scope x:=by first|exact Or.inl rfl|exact Or.inr (Or.inl rfl)|exact Or.inr (Or.inr rfl))(hd:(x==("__debug__":Str))=false:=by decide)(dR:(x==("__classdict__":Str))=false:=by decide)(cG:attributeBase (.Name x px) "insert" X.env (eval (.Name x px) X.env)=eval (.Name x px) X.env:=by rfl)(rK:((backTo aX (starEach [e,e2] X.env)).all (fun x=>!x.1)&&(backToKw aX (keywordEach [] X.env)).all (fun x=>x.1.isSome)
      && decide (([e,e2]:List Expr).length+([]:List Keyword).length+(if ([]:List Keyword).isEmpty then 0 else 1)<30))=true:=by rfl)(hline:(apos.endLine==aX.line)=true:=by rfl)(hs:starEach [e,e2] X.env=(false,eval e X.env)::starEach [e2] X.env:=by rfl)(ku:starEach [e2] X.env=(false,eval e2 X.env)::starEach [] X.env:=by rfl)(IW:swapsWith (.Call (.Attribute (.Name x px) "insert" apos) [e,e2] [] aX) none pos.line X.env=pure false:=by rfl):DS X z (.Expr (.Call (.Attribute (.Name x px) "insert" apos) [e,e2] [] aX) pos) (qy i fk f) :=
  PS.weak (kL (wZ PySem.F.plainAttrs_list PySem.F.slot_list_insert PySem.F.type_list_insert GX (cM hN hv hd dR) (aW hk (aW h cN ku) hs) cG rK hline hs (by rw[ku];rfl)) IW) fun D σ H ⟨η,F,o,r,e,k⟩=>by
  unfold qy at e;obtain⟨kd,e0,e⟩:=cR.mp e;obtain⟨d,e1,e2⟩:=cR.mp e;split at e2
  · rename_i ds j h;by_cases hl:0≤j∧j.toNat≤ds.length∧ds.length<10000
    ·rw[ay hl] at e2;cases e2;obtain⟨p,o,h1,h2,h3,h4,vs,rfl,h5⟩:=r.ownAt h rfl;refine⟨_,h1,.inl ⟨rfl,vs,eW.of h4⟩,η,F,_,r,e0,fun v1 H1 F1 g1 q1=>⟨η,F1,d,r.grow g1,e1,fun v H' F' g2 q=>?_⟩⟩;have uH:=g1.trans g2;have r1:=r.grow uH;have Xs:=uH.ent _ _ h4;have Uu:=aJ h5;have h5':=bp uH.cz _ _ h5;refine⟨p,vs,v,j,j.toNat,rfl,by rw[aD.mp q1],by omega,Xs,by omega,by omega,k _ _ F' (r1.write h rfl h1 ⟨vs.take j.toNat++v::vs.drop j.toNat,rfl,jL (rQ _ h5') (av.mpr ⟨_,_,rfl,q,rR _ h5'⟩)⟩ ?_) uH.cz⟩;show(vs.take j.toNat++v::vs.drop j.toNat).length≤sizeLine;rw[lZ,eT,List.length_take,List.length_drop,ig];omega
    ·rw[az hl] at e2;cases e2
  ·cases e2
end
def minD:eZ→Option D
  |[.int i,.int j]=>some (.int (if j<i then j else i))
  |_=>none
section
variable {X:Cx} {z:Zc} {e a b:Expr} {f fa fb fk:EF} {pos p:Pos} {K:PySem.W.Frag}
theorem Rm:xh K minD (fun xs H Q=>∃i j,xs=[.int i,.int j]∧Q (.int (if j<i then j else i)) H):=fun F H ds d vs Q b e h k=>by
  unfold minD at e;split at e
  ·rename_i i j;cases e;obtain⟨v,r,rfl,h1,h2⟩:=av.mp h;obtain⟨w,rfl,h3⟩:=uE h2;exact⟨i,j,by rw[aD.mp h1,aD.mp h3],k _ (aD.mpr rfl)⟩
  ·cases e
end
structure Mk0 (K:PySem.W.Frag) (C:Addr):Prop where
  makes:makesIn K C=true
  init:PySem.W.findIn K (.ref C) "__init__"=some (some (.builtin "object.__init__"))
  kp:keepIn K (.ref C)=true
structure aai (K:PySem.W.Frag) (C:Addr):Prop where
  cl:vW K C
  ha:PySem.W.findIn K (.ref C) "__class__"=some (some (.builtin "object.__class__"))
  hn:PySem.W.specialIn K (.builtin "object.__class__") "__get__"=some (some (.builtin "getset_descriptor.__get__"))
  VL:PySem.W.takesIn K (.builtin "object.__class__")=some true
  hm:PySem.W.mroIn K C (.type "object")=some true
section
variable {X:Cx} {z:Zc} {e a b:Expr} {f fa fb fk fv:EF} {fl:LF} {pos p:Pos} {g:SF} {st:Stmt}
def dK(i:Nat)(η:aY):Option (List (Key×D)):=match η[i]? with
  |some (some (.ok ao))=>some ao
  |some (some (.fk ao))=>some ao
  |_=>none
end
end DL
namespace DL
open PySem PySem.Spec L2 PySem.W MB
open PyProof.Rows hiding St pairAt
section
variable {X:Cx} {pins:gu} {σ:St} {H:Hp} {s:Shared}
structure Lam (X:Cx) (k:Nat) (q:Str) (params:Arguments) (body:Expr) (scope:Scope) (g:EF):Prop where
  ex:∃N ps,bq N ps scope∧ps.length=1∧N.length=1∧(∀(pm cd ct:Value) (us:cv),us.length=ps.length→bindArgs (kla_fn "<lambda>" q params body scope [] pm cd ct) ⟨us,[]⟩=pure (ps.zip us)) ∧
    ∀(f c':Addr) (A:Around) (outer:List Env) (s:Shared) (H:Hp) (z:Zc),cU k (A.deeper (envOfC q scope s.heap.objs.size f (.ref c')))→DE (wg mz X.prog X.w X.K X.mg X.base N q scope f (.ref c') A outer s H E0).LW z body g
end
end DL
namespace L2
open PySem PySem.Spec PyProof.Rows PySem.W
def UB(outer:List Env)(h0:Heap)(ea:Addr)(C:Value)(H':Hp)(h':Heap):Prop :=
  ∃B a0,Heap.FlyingW B outer ea C a0 h'∧(∀b o,h0.get? b=some o→b∉FV outer→∃o',B.get? b=some o')∧∀b o,H' b=some o→∃o',B.get? b=some o'
def CP(P:Program)(w:World):Hv:=fun outer H s E e s' =>
  ∃(ea C:Addr) (H':Hp),e=.ref ea∧s'.os=s.os∧AllBare s'.gens∧Un (FV outer) [] H H' s.heap s'.heap∧oA P w H' s'.heap∧UB outer s.heap ea (.ref C) H' s'.heap∧E (.ref C) none H'
section
variable {P:Program} {w:World} {K:PySem.W.Frag} {mg:Str→fu} {base:Heap} {N:dC} {qual:Str} {scope:Scope} {f:Addr} {cd:Value} {A:Around} {outer:List Env} {s₀:Shared} {H₀:Hp} {E:XK}
  {pins:gu} {σ:St} {H:Hp} {s:Shared}
end
end L2
namespace PySem.W
open PySem PySem.Spec PySem.Calls PyProof.Rows Builtin Builtin.ObjectAttr Builtin.Getset_descriptor
section
variable {prog:Program} {w:World} {A:Around} {E:fR} {s:Shared} {K:Frag} {x C D:Addr} {ox:Obj} {od:Obj} {odo:Option Obj} {name:Str}
structure aaj (K:Frag) (C:Addr):Prop where
  cl:(clsIn K C).isSome=true
  ga:findIn K (.ref C) "__getattribute__"=some (some (.builtin "BaseException.__getattribute__"))
  gt:findIn K (.ref C) "__getattr__"=some none
  ha:findIn K (.ref C) "__class__"=some (some (.builtin "object.__class__"))
  hn:specialIn K (.builtin "object.__class__") "__get__"=some (some (.builtin "getset_descriptor.__get__"))
  VL:takesIn K (.builtin "object.__class__")=some true
  hm:mroIn K C (.type "object")=some true
  hb:mroIn K C (.type "BaseException")=some true
end
end PySem.W
namespace DL
open PySem PySem.Spec L2
open PyProof.Rows hiding St pairAt
def UC(K:PySem.W.Frag)(F H:Hp)(r:Slot)(Q:VK)(E:XK):Prop :=
  match r with
  |.pn C _=>∀H' F',aG F H F' H'→E (.ref C) none H'
  |r=>EB K F H r Q
abbrev zX(F H:Hp)(E:XK):Zc:=⟨F,H,fun C H'=>E (.ref C) none H'⟩
structure AF (P:Program) (w:World) (K:PySem.W.Frag) (mg:Str→fu) (base:Heap) (k:Nat) (f:Addr) (ps:dC) (sp:Sp):Prop where
  ex:∃fd,cD P w K mg base (CP P w) k f fd ps sp∧Binds K fd ps []∧keepIn K (.ref f)=true
def cX(H:Hp)(p:Addr):Hp:=fun b=>if b=p then none else H b
theorem bQ:cX H p p=none:=by unfold cX;rw[ay rfl]
theorem cF(h:b≠p):cX H p b=H b:=by unfold cX;rw[az h]
theorem tY(h:H p=some o):upd (cX H p) p o=H:=by
  funext b;by_cases e:b=p
  ·subst e;rw[ax,h]
  ·rw[ai e,cF e]
theorem dg(b:Base F H)(hF:F p=none):Base F (cX H p) where
  sub:=fun a o h=>by rw[cF (fun e=>by rw[e,hF] at h;cases h)];exact b.sub a o h
  tup:=fun a o h t=>by
    by_cases e:a=p
    ·rw[e,bQ] at h;cases h
    ·rw[cF e] at h;exact b.tup a o h t
  sR:=fun a o h=>by
    by_cases e:a=p
    ·rw[e,bQ] at h;cases h
    ·rw[cF e] at h;exact b.sR a o h
section
variable {K:PySem.W.Frag} {z:Zc} {F H:Hp} {σ:St} {η:aY}
theorem Rel.hide(r:Rel K z F H σ η)(hz:z.H₀ p=none)(hF:F p=none)(hp:∀(j:Nat) s w,η[j]?=some (some s)→s.own=true→σ[j]?=some (some w)→¬ cO K F w s p):Rel K z F (cX H p) σ η where
  mem:=⟨dg r.base hF,r.mem.cz,fun a o h=>by rw[cF (fun e=>by rw[e,hz] at h;cases h)];exact r.mem.ent a o h,r.mem.new⟩
  len:=r.len
  at_:=fun i sl e=>by
    obtain⟨v,hv,h⟩:=r.at_ i sl e;refine⟨v,hv,?_⟩;cases ho:sl.own with
    |true=>obtain⟨q,o,h1,h2,h3,h4,h5⟩:=(bP ho).mp h;refine(bP ho).mpr ⟨q,o,h1,h2,h3,?_,h5⟩;have lX:q≠p:=fun e2=>hp i sl v e ho hv (by rw[←e2];exact h1);rw[cF lX];exact h4
    |false=>cases sl<;>first|exact h|cases ho
  apart:=r.apart
end
end DL
namespace L2
open PySem PySem.Spec PyProof.Rows
section
variable {X:Cx}
def XG:V→Option Int→Option Int→Hp→VK→Prop:=fun x lo hi H Q=>∃y,x=.str y∧y.length≤sizeLine∧Q (.str (Txt.slice y lo hi)) H
theorem Rn:WY X XG:=by
  intro pins s σ H x v vl vu lo hi sl Q I rx hs pl pu h;obtain⟨y,rfl,hz,q⟩:=h;obtain⟨t,rfl⟩:=rx;refine⟨"str",_,F.slot_str_getitem.lookup,typeIs_str _ _ _,?_⟩;have fin:∀(t':Tok) (k:Nat),EP X pins σ Q (.str (Txt.slice y lo hi) t') { s with toks:=k }:=fun t' k=>⟨.str _,H,I.kept (t':=k) fun b ob q=>q,⟨_,rfl⟩,q⟩
  cases pl<;>cases pu
  ·exact wpAny_getItem_str_slice (l:=none) (u:=none) (st:=none) hs rfl (post_val_or_str ⟨gy (Txt.slice_le y _ _) hz,fin⟩)
  ·exact wpAny_getItem_str_slice (l:=none) (u:=some (_,_)) (st:=none) hs rfl (post_val_or_str ⟨gy (Txt.slice_le y _ _) hz,fin⟩)
  ·exact wpAny_getItem_str_slice (l:=some (_,_)) (u:=none) (st:=none) hs rfl (post_val_or_str ⟨gy (Txt.slice_le y _ _) hz,fin⟩)
  ·exact wpAny_getItem_str_slice (l:=some (_,_)) (u:=some (_,_)) (st:=none) hs rfl (post_val_or_str ⟨gy (Txt.slice_le y _ _) hz,fin⟩)
theorem Nh:Sq X "str.find" (fun x xs H Q=>∃p q,x=.str p∧xs=[.str q]∧Q (.int (Txt.find p q)) H):=by intro pins s σ H x xs v us Q I rx r h;obtain⟨p,q,rfl,rfl,k⟩:=h;obtain⟨t,rfl⟩:=rx;obtain⟨u,rfl,ru⟩:=vals1 r;obtain⟨t',rfl⟩:=ru;exact SC.find ⟨.int _,H,I.tok _,⟨_,rfl⟩,k⟩
theorem Ff:∀(l:List (Str×Tok)),Vals (l.map fun p=>V.str p.1) (strValues l)
  |[]=>.nil
  |p::l=>.cons ⟨_,rfl⟩ (Ff l)
theorem GZ{y:Str}{t u:Tok}(hy:(y.length==0)=false)(hx:x.length+2≤sizeLine)(k:∀(l:List (Str×Tok)) (n:Nat),l.map (·.1)=Txt.split x y→Q (.ref s.heap.objs.size) { s with heap:=s.heap.push { cls:=.type "list",data:=.seq (strValues l).toArray },toks:=n }):wpAny (model X.prog X.w) A (call (.builtin "str.split") [.str x t,.str y u]) Q E s:=by
  have Pp:x.length≤sizeLine:=by omega
  have hn:(Builtin.Str.partsBetween x (Builtin.Str.occurrences x y 0 x.length (x.length+1)) y.length).length≤sizeLine:=by have:=StrLaws.occ_length_le x y 0 x.length (x.length+1);rw[length_partsBetween];omega
  have one:Txt.split x y=[x]→∀n,Q (.ref s.heap.objs.size) { s with heap:=s.heap.push { cls:=.type "list",data:=.seq (strValues [(x,t)]).toArray },toks:=n }:=fun e n=>k [(x,t)] n e.symm;by_cases c1:(decide (x.length<y.length)||decide (Builtin.Str.strKind x<Builtin.Str.strKind y))=true
  ·exact call_meets F.slot_str_split (typeIs_str _ _ _) F.entry_str_split (F.args_str_split_2 _ _) (meets_str_split_cannot_occur x y t u c1) (one (by unfold Txt.split;rw[ay c1]) s.toks)
  · have c1':=Bool.eq_false_iff.mpr c1;by_cases c2:(Builtin.Str.occurrences x y 0 x.length (x.length+1)).isEmpty=true
    ·exact call_meets F.slot_str_split (typeIs_str _ _ _) F.entry_str_split (F.args_str_split_2 _ _) (meets_str_split_not_found x y t u c1' hy c2) (one (by unfold Txt.split;rw[az c1,ay c2]) s.toks)
    · refine call_meets F.slot_str_split (typeIs_str _ _ _) F.entry_str_split (F.args_str_split_2 _ _) (meets_str_split_sep x y t u c1' hy (Bool.eq_false_iff.mpr c2) Pp hn) ?_;have:=k (numbered s.toks (Builtin.Str.partsBetween x (Builtin.Str.occurrences x y 0 x.length (x.length+1)) y.length)) (s.toks+(Builtin.Str.partsBetween x (Builtin.Str.occurrences x y 0 x.length (x.length+1)) y.length).length)
        ((numbered_texts _ _).trans (by unfold Txt.split;rw[az c1,az c2]))
      rw[←strsFrom_eq] at this;exact this
theorem split_len(x y:Str):(Txt.split x y).length≤x.length+2:=by
  unfold Txt.split;split
  ·show 1≤_;omega
  · split
    ·show 1≤_;omega
    ·have:=StrLaws.occ_length_le x y 0 x.length (x.length+1);rw[length_partsBetween];omega
theorem Kh:Sq X "str.split" (fun x xs H Q=>∃p q,x=.str p∧xs=[.str q]∧(q.length==0)=false∧p.length+2≤sizeLine∧∀a,H a=none→Q (.ref a) (upd H a (.lst ((Txt.split p q).map V.str)))):=by
  intro pins s σ H x xs v us Q I rx r h;obtain⟨p,q,rfl,rfl,hq,hp,k⟩:=h;obtain⟨t,rfl⟩:=rx;obtain⟨u,rfl,ru⟩:=vals1 r;obtain⟨t',rfl⟩:=ru;refine GZ hq hp fun l n e=>?_;have ev:(Txt.split p q).map V.str=l.map fun z=>V.str z.1:=by rw[←e,fA];rfl
  refine⟨.ref s.heap.objs.size,_,I.laid (t':=n) (o:=.lst ((Txt.split p q).map V.str)) (fun b ob q=>eo _ q) (bG _) ?_,rfl,k _ (I.bU.fresh (bG _))⟩;rw[ev];refine⟨?_,strValues l,0,Ff l,cT _ rfl⟩;have e2:l.length=(Txt.split p q).length:=by rw[←e,fG]
  rw[fG,e2];exact gy (split_len p q) hp
end
end L2
namespace DL
open PySem PySem.Spec L2
open PyProof.Rows hiding St
section
variable {X:Cx} {z:Zc} {a b e o:Expr} {fa fb f fo:EF} {pos:Pos}
def AG:D→D→Option D
  |.str x,.str y=>if x.length+y.length≤1000 then some (.str (x++y)) else none
  |_,_=>none
theorem Ni{K:PySem.W.Frag}:EC K AG (fun x y H Q=>∃i j,x=.str i∧y=.str j∧i.length+j.length≤sizeLine∧Q (.str (i++j)) H):=fun F H x y d v u Q b e h1 h2 k=>by
  unfold AG at e;split at e
  · split at e
    ·rename_i hl;cases e;exact⟨_,_,aQ.mp h1,aQ.mp h2,ml (eF hl),k _ (aQ.mpr rfl)⟩
    ·cases e
  ·cases e
theorem yB(ha:DB X z a fa)(hb:DB X z b fb):DE X z (.BinOp a .Add b pos) (ae AG fa fb):=uy BM Ni ha hb
def Nj:D→D→Option D
  |.str x,.int i=>if x.length≤1000 then(rJ x.cps.toList i).map fun c=>.str ⟨#[c]⟩ else none
  |_,_=>none
theorem Ro{K:PySem.W.Frag}:EC K Nj TQ:=fun F H x y d v u Q b e h1 h2 k=>by
  unfold Nj at e;split at e
  · split at e
    ·rename_i hl;obtain⟨c,h3,h4⟩:=iB.mp e;subst h4;exact⟨_,_,c,aQ.mp h1,aD.mp h2,ml (eF hl),h3,k _ (aQ.mpr rfl)⟩
    ·cases e
  ·cases e
theorem CQ(ha:DB X z a fa)(hb:DB X z b fb)(hs:tR b:=by intro _ _;rfl):DE X z (.Subscript a b pos) (ae Nj fa fb):=PE.weak (ik Qm ha hb hs) (p9 Ro)
def CT(f:EF)(pl ph:PF):EF:=fun η=>(f η).bind fun d=>(pl η).bind fun l=>(ph η).bind fun h=>match d with|.str x=>if x.length≤1000 then some (.str (Txt.slice x l h)) else none|_=>none
theorem CV{lo hi:Option Expr}{pl ph:PF}(ha:DB X z e f)(hl:DP X z lo pl)(hh:DP X z hi ph):DE X z (.Subscript e (.Slice lo hi none p2) pos) (CT f pl ph):=PE.weak (zM Rn ha hl hh) fun σ H Q ⟨η,F,d,r,e,k⟩=>by
  unfold CT at e;obtain⟨d',h1,e⟩:=cR.mp e;obtain⟨l,h2,e⟩:=cR.mp e;obtain⟨h,h3,e⟩:=cR.mp e;cases d' with
  |str x =>
   by_cases hc:x.length≤1000
   ·dsimp only at e;rw[ay hc] at e;cases e;refine⟨η,F,_,r,h1,fun v H1 F1 g1 q1=>⟨η,F1,l,r.grow g1,h2,fun H2 F2 g2=>⟨η,F2,h,(r.grow g1).grow g2,h3,fun H3 F3 g3=>?_⟩⟩⟩;exact⟨x,aQ.mp q1,ml (eF hc),k _ H3 F3 ((g1.trans g2).trans g3) (aQ.mpr rfl)⟩
   ·dsimp only at e;rw[az hc] at e;cases e
  |_=>cases e
def findD:D→D→Option D
  |.str x,.str y=>some (.int (Txt.find x y))
  |_,_=>none
theorem Nk(ho:DB X z o fo)(h:DB X z e f)(cG:attributeBase o "find" X.env (eval o X.env)=eval o X.env:=by rfl)(rK:((backTo aX (starEach [e] X.env)).all (fun x=>!x.1)&&(backToKw aX (keywordEach [] X.env)).all (fun x=>x.1.isSome)
      && decide (([e]:List Expr).length+([]:List Keyword).length+(if ([]:List Keyword).isEmpty then 0 else 1)<30))=true:=by rfl)(hline:(apos.endLine==aX.line)=true:=by rfl)(hs:starEach [e] X.env=(false,eval e X.env)::starEach [] X.env:=by rfl):DE X z (.Call (.Attribute o "find" apos) [e] [] aX) (ae findD fo f) :=
  PE.weak (wZ PySem.F.plainAttrs_str PySem.F.slot_str_find PySem.F.type_str_find Nh ho (aW h cN hs) cG rK hline hs (by rfl)) fun σ H Q ⟨η,F,d,r,e,k⟩=>by
  obtain⟨x,y,h1,h2,h3⟩:=i9 e;refine⟨η,F,x,r,h1,fun v H1 F1 g1 q1=>?_⟩;unfold findD at h3;split at h3
  ·cases h3;rw[aQ.mp q1];refine⟨rfl,η,F1,_,r.grow g1,h2,fun u H2 F2 g2 q2=>?_⟩;rw[aQ.mp q2];exact⟨_,_,rfl,rfl,k _ H2 F2 (g1.trans g2) (aD.mpr rfl)⟩
  ·cases h3
theorem xm{K:PySem.W.Frag}{F:Hp}:∀(l:dC),bz K F (l.map D.str) (l.map V.str)
  |[]=>aO.mpr rfl
  |x::l=>av.mpr ⟨_,_,rfl,aQ.mpr rfl,xm l⟩
def CW:D→D→Option eZ
  |.str x,.str y=>if (y.length==0)=false∧x.length≤1000 then some ((Txt.split x y).map D.str) else none
  |_,_=>none
def u3(fo f:EF):LF:=fun η=>(fo η).bind fun x=>(f η).bind fun y=>CW x y
theorem Ki(ho:DB X z o fo)(h:DB X z e f)(cG:attributeBase o "split" X.env (eval o X.env)=eval o X.env:=by rfl)(rK:((backTo aX (starEach [e] X.env)).all (fun x=>!x.1)&&(backToKw aX (keywordEach [] X.env)).all (fun x=>x.1.isSome)
      && decide (([e]:List Expr).length+([]:List Keyword).length+(if ([]:List Keyword).isEmpty then 0 else 1)<30))=true:=by rfl)(hline:(apos.endLine==aX.line)=true:=by rfl)(hs:starEach [e] X.env=(false,eval e X.env)::starEach [] X.env:=by rfl):DO X z (.Call (.Attribute o "split" apos) [e] [] aX) (u3 fo f) :=
  PE.weak (wZ PySem.F.plainAttrs_str PySem.F.slot_str_split PySem.F.type_str_split Kh ho (aW h cN hs) cG rK hline hs (by rfl)) fun σ H Q ⟨η,F,d,r,e,k⟩=>by
  unfold u3 at e;obtain⟨x,h1,e⟩:=cR.mp e;obtain⟨y,h2,h3⟩:=cR.mp e;refine⟨η,F,x,r,h1,fun v H1 F1 g1 q1=>?_⟩;unfold CW at h3;split at h3
  · rename_i p0 q0;split at h3
    · rename_i hc;cases h3;rw[aQ.mp q1];refine⟨rfl,η,F1,_,r.grow g1,h2,fun u H2 F2 g2 q2=>?_⟩;rw[aQ.mp q2];have hz:∀n,n≤1000→n+2≤sizeLine:=fun n h=>by rw[ig];omega
      refine⟨_,_,rfl,rfl,hc.1,hz _ hc.2,fun p hp=>?_⟩;have hl:((Txt.split p0 q0).map V.str).length≤sizeLine:=by rw[fG];exact gy (split_len _ _) (hz _ hc.2)
      have g4:=aG.own g2.base hp (.lst ((Txt.split p0 q0).map V.str)) hl rfl;exact k p _ _ F2 ((g1.trans g2).trans g4) ((g1.trans g2).ent.free hp) (g2.base.sub.free hp) ax (xm _)
    ·cases h3
  ·cases h3
def Kj:eZ→Option D
  |[.str x]=>if x.length≤1000 then some (.int x.length) else none
  |_=>none
theorem Fg{K:PySem.W.Frag}:xh K Kj (fun xs H Q=>∃z,xs=[.str z]∧z.length≤sizeLine∧Q (.int z.length) H):=fun F H ds d vs Q b e h k=>by
  unfold Kj at e;split at e
  · split at e
    ·rename_i hl;cases e;obtain⟨v,rfl,h'⟩:=uE h;exact⟨_,by rw[aQ.mp h'],ml (eF hl),k _ (aD.mpr rfl)⟩
    ·cases e
  ·cases e
def Rp(neg:Bool):D→D→Option D
  |.str x,.str y=>some (.bl (neg ^^ !(Builtin.Str.occurrences y x 0 y.length 1).isEmpty))
  |_,_=>none
theorem Rq{K:PySem.W.Frag}:EC K (Rp false) (fun x y H Q=>∃i j,x=.str i∧y=.str j∧Q (.bl (!(Builtin.Str.occurrences j i 0 j.length 1).isEmpty)) H):=fun F H x y d v u Q b e h1 h2 k=>by
  unfold Rp at e;split at e
  ·cases e;exact⟨_,_,aQ.mp h1,aQ.mp h2,k _ (bu.mpr (by rw[Bool.false_xor]))⟩
  ·cases e
theorem Rr(ha:DB X z a fa)(hb:DB X z b fb)(hm:behindInMarks .In b=false:=by rfl):DE X z (.Compare a [.In] [b] pos) (ae (Rp false) fa fb):=yf F9 Rq ha hb hm
end
end DL
namespace L2
open PySem PySem.Spec PyProof.Rows
section
variable {X:Cx}
theorem u5:∀{ys:dC} {us:cv},Vals (ys.map V.str) us→StrsAre us ys
  |[],_,.nil=>.nil
  |_::_,_,.cons r t=>by obtain⟨u,rfl⟩:=r;exact .cons _ _ (u5 t)
theorem Nm:Sq X "str.join" (fun x xs H Q=>∃(p:Str) (l:Addr) (ys:dC),x=.str p∧xs=[.ref l]∧eW X.K H l (ys.map V.str)∧(ys.map (·.length)).sum+ys.length*p.length≤16777216∧Q (.str (Txt.join p ys)) H):=by intro pins s σ H x xs v us Q I rx r h;obtain⟨p,l,ys,rfl,rfl,hl,hz,q⟩:=h;obtain⟨t,rfl⟩:=rx;obtain⟨u,rfl,ru⟩:=vals1 r;cases ru;obtain⟨its,ri,pl,_⟩:=I.list hl;exact join_list pl.isList (by simpa using u5 ri) hz fun t' k=>⟨.str _,H,I.kept (t':=k) fun b ob q=>q,⟨_,rfl⟩,q⟩
theorem Rt{xs:List V}(r:Vals xs us)(e:us[i]?=some u):∃v,xs[i]?=some v∧RelV v u:=by
  induction r generalizing i with
  |nil=>simp at e
  |cons h t ih =>
   cases i with
   |zero=>simp at e;subst e;exact⟨_,rfl,h⟩
   |succ i=>exact ih (by simpa using e)
theorem Nn{a b:Str}:Iv (.str a) (.str b)=(a==b):=by rfl
theorem Kk:Sq X "list.index" (fun x xs H Q=>∃(l:Addr) (ys:dC) (q:Str) (j:Nat),x=.ref l∧xs=[.str q]∧eW X.K H l (ys.map V.str)∧ys.findIdx? (·==q)=some j∧Q (.int (j:Nat)) H):=by
  intro pins s σ H x xs v us Q I rx r h;obtain⟨l,ys,q,j,rfl,rfl,hl,hj,k⟩:=h;cases rx;obtain⟨u,rfl,ru⟩:=vals1 r;obtain⟨its,ri,pl,hz⟩:=I.list hl;obtain⟨dY,hp,hno⟩:=List.findIdx?_eq_some_iff_getElem.mp hj;have hlen:its.length=ys.length:=by have:=ri.length;rw[fG] at this;exact this.symm
  have UD:(ys.map V.str).all my=true:=by rw[List.all_map];exact eU.mpr fun _ _=>rfl
  have Fe:∀(i:Nat) (hi:i<its.length),zN (.str q) its[i]=(ys[i]'(by omega)==q):=fun i hi=>by
    obtain⟨y,e1,r1⟩:=Rt ri (eP hi);have Hw:i<ys.length:=by omega
    rw[eS,eP Hw] at e1;cases e1;rw[B3 r1 rfl,Nn]
  obtain⟨o,n,ho,hc,hd,hs⟩:=pl;cases o with
  |mk cls dd dat sl =>
  simp only at hc hd hs;subst hc hd hs;have rv:RelV (.str q) u:=ru;obtain⟨t,rfl⟩:=ru;have hjs:j<its.toArray.size:=by rw[eE];omega
  have acK:sizeLine<2^63-1:=by rw[ig];decide
  rw[fG] at hz;refine call_meets PySem.F.slot_list_index ⟨_,ho,rfl⟩ PySem.F.entry_list_index (PySem.F.args_list_index_2 _ _)
    (SeqAt.list_indexAt l its.toArray n none sl (.str q t) (zN (.str q)) j hjs (by omega) ?_ fun m hm XH=>?_) ⟨ho,fun y hy=>kz rv rfl ri UD y (by simpa using hy),⟨.int _,H,I.tok _,⟨_,rfl⟩,k⟩⟩
  ·have:=Fe j (by omega);rw[List.getElem_toArray,this];exact hp
  · have yb:m<its.length:=by rw[eE] at hm;exact hm
    rw[List.getElem_toArray,Fe m yb];exact Bool.eq_false_iff.mpr (hno m XH)
theorem G0(hcm:X.calm=true):mw X (.builtin "all") (fun xs H Q=>∃(l:Addr) (bs:List Bool),xs=[.ref l]∧eW X.K H l (bs.map V.bl)∧Q (.bl (bs.all id)) H):=by
  intro pins s σ H xs us Q I r h;obtain⟨l,bs,rfl,hl,q⟩:=h;obtain⟨u,rfl,ru⟩:=vals1 r;cases ru;obtain⟨its,ri,pl,hz⟩:=I.list hl;have dY:l<s.heap.objs.size:=by obtain⟨_,e,_⟩:=pl.isList;exact bL e
  have hlen:its.length=bs.length:=by have:=ri.length;rw[fG] at this;exact this.symm
  refine call_all_walk (wpAny_pyIter_list pl.isList ?_);refine⟨s.heap.objs.size,[s.heap.objs.size,l],[s.heap.objs.size],its.toArray.size,_,_,fun i=>(bs[i]?).getD true,rfl,Walks.list (A:=X.A.in1) (I.ok.hd hcm) _ l (dw dY) its.toArray,
    ⟨⟨_,cT _ rfl,rfl,rfl⟩,pl.isList.push _⟩,fun i v s' Q' E' hP hQ=>?_,fun h' tk hk=>?_⟩
  · have hP':its[i]?=some v:=by simpa using hP
    obtain⟨y,e1,r1⟩:=Rt ri hP';rw[eS] at e1;obtain⟨b,e2,e3⟩:=iB.mp e1;subst e3;cases r1;have hQ2:Q' b s':=by have:=hQ;simp only[e2,Option.getD_some] at this;exact this
    exact wpAny_truthy_bool hQ2
  · have e:((List.range its.toArray.size).all fun i=>(bs[i]?).getD true)=bs.all id:=by
      rw[eE,hlen];rw[pG,eU,eU];constructor
      ·intro h b hb;obtain⟨i,hi,rfl⟩:=List.getElem_of_mem hb;have:=h i (mj.mpr hi);rw[eP hi] at this;exact this
      ·intro h i hi;have Hw:=mj.mp hi;rw[eP Hw];exact h _ (List.getElem_mem Hw)
    rw[e];refine⟨.bl _,H,I.kept (t':=tk) fun b ob e=>?_,rfl,q⟩;refine hk b ob (fun hm=>?_) (eo _ e);rw[List.mem_singleton.mp hm] at e;exact rn _ (bL e)
end
end L2
namespace DL
open PySem PySem.Spec L2
open PyProof.Rows hiding St
section
variable {X:Cx} {z:Zc} {a b e o:Expr} {fa fb f fo:EF} {pos:Pos}
def nZ:eZ→Option dC
  |[]=>some []
  |.str x::ds=>(nZ ds).map (x::·)
  |_::_=>none
theorem qz:∀{ds:eZ} {xs:dC},nZ ds=some xs→ds=xs.map D.str
  |[],xs,h=>by cases h;rfl
  |.str i::ds,xs,h=>by obtain⟨r,h1,h2⟩:=iB.mp h;subst h2;rw[qz h1];rfl
theorem nC:∀(xs:dC),nZ (xs.map D.str)=some xs
  |[]=>rfl
  |x::xs=>by show(nZ (xs.map D.str)).map _=_;rw[nC xs];rfl
theorem lq{K:PySem.W.Frag}{F:Hp}:∀{xs:dC} {vs:List V},bz K F (xs.map D.str) vs→vs=xs.map V.str
  |[],vs,h=>aO.mp h
  |x::xs,vs,h=>by obtain⟨v,r,rfl,h1,h2⟩:=av.mp h;rw[aQ.mp h1,lq h2];rfl
def AH:D→D→Option D
  |.str x,.lst ds=>(nZ ds).bind fun ys=>if (ys.map (·.length)).sum+ys.length*x.length≤1000 then some (.str (Txt.join x ys)) else none
  |_,_=>none
theorem Np(ho:DB X z o fo)(h:DB X z e f)(cG:attributeBase o "join" X.env (eval o X.env)=eval o X.env:=by rfl)(rK:((backTo aX (starEach [e] X.env)).all (fun x=>!x.1)&&(backToKw aX (keywordEach [] X.env)).all (fun x=>x.1.isSome)
      && decide (([e]:List Expr).length+([]:List Keyword).length+(if ([]:List Keyword).isEmpty then 0 else 1)<30))=true:=by rfl)(hline:(apos.endLine==aX.line)=true:=by rfl)(hs:starEach [e] X.env=(false,eval e X.env)::starEach [] X.env:=by rfl):DE X z (.Call (.Attribute o "join" apos) [e] [] aX) (ae AH fo f) :=
  PE.weak (wZ PySem.F.plainAttrs_str PySem.F.slot_str_join PySem.F.type_str_join Nm ho (aW h cN hs) cG rK hline hs (by rfl)) fun σ H Q ⟨η,F,d,r,e,k⟩=>by
  obtain⟨x,y,h1,h2,h3⟩:=i9 e;refine⟨η,F,x,r,h1,fun v H1 F1 g1 q1=>?_⟩;unfold AH at h3;split at h3
  · obtain⟨ys,h4,h5⟩:=cR.mp h3;by_cases hc:(ys.map (·.length)).sum+ys.length*(‹Str›).length≤1000
    ·rw[ay hc] at h5;cases h5;rw[aQ.mp q1];refine⟨rfl,η,F1,_,r.grow g1,h2,fun u H2 F2 g2 q2=>?_⟩;obtain⟨l,vs,rfl,h6,h7⟩:=aK.mp q2;rw[qz h4] at h7;rw[lq h7] at h6;exact⟨_,l,ys,rfl,rfl,h6,gy hc (by decide),k _ H2 F2 (g1.trans g2) (aQ.mpr rfl)⟩
    ·rw[az hc] at h5;cases h5
  ·cases h3
def u6:D→D→Option D
  |.lst ds,.str x=>(nZ ds).bind fun ys=>(ys.findIdx? (·==x)).map fun j=>.int (j:Nat)
  |_,_=>none
theorem Kl(ho:DB X z o fo)(h:DB X z e f)(cG:attributeBase o "index" X.env (eval o X.env)=eval o X.env:=by rfl)(rK:((backTo aX (starEach [e] X.env)).all (fun x=>!x.1)&&(backToKw aX (keywordEach [] X.env)).all (fun x=>x.1.isSome)
      && decide (([e]:List Expr).length+([]:List Keyword).length+(if ([]:List Keyword).isEmpty then 0 else 1)<30))=true:=by rfl)(hline:(apos.endLine==aX.line)=true:=by rfl)(hs:starEach [e] X.env=(false,eval e X.env)::starEach [] X.env:=by rfl):DE X z (.Call (.Attribute o "index" apos) [e] [] aX) (ae u6 fo f) :=
  PE.weak (wZ PySem.F.plainAttrs_list PySem.F.slot_list_index PySem.F.type_list_index Kk ho (aW h cN hs) cG rK hline hs (by rfl)) fun σ H Q ⟨η,F,d,r,e,k⟩=>by
  obtain⟨x,y,h1,h2,h3⟩:=i9 e;refine⟨η,F,x,r,h1,fun v H1 F1 g1 q1=>?_⟩;unfold u6 at h3;split at h3
  ·obtain⟨ys,h4,h5⟩:=cR.mp h3;obtain⟨j,h6,h7⟩:=iB.mp h5;subst h7;obtain⟨l,vs,rfl,h8,h9⟩:=aK.mp q1;refine⟨.inl ⟨rfl,_,h8⟩,η,F1,_,r.grow g1,h2,fun u H2 F2 g2 q2=>?_⟩;rw[aQ.mp q2];have VZ:=aL g2.ent _ _ q1;obtain⟨l',Z9,e',h8,h9⟩:=aK.mp VZ;cases e';rw[qz h4] at h9;rw[lq h9] at h8;exact⟨l,ys,_,j,rfl,rfl,h8,h6,k _ H2 F2 (g1.trans g2) (aD.mpr rfl)⟩
  ·cases h3
def Km:eZ→Option (List Bool)
  |[]=>some []
  |.bl x::ds=>(Km ds).map (x::·)
  |_::_=>none
theorem AI{K:PySem.W.Frag}{F:Hp}:∀{ds:eZ} {bs:List Bool} {vs:List V},Km ds=some bs→bz K F ds vs→vs=bs.map V.bl
  |[],bs,vs,h,h'=>by cases h;exact aO.mp h'
  |.bl i::ds,bs,vs,h,h'=>by obtain⟨r,h1,h2⟩:=iB.mp h;subst h2;obtain⟨v,r',rfl,h3,h4⟩:=av.mp h';rw[bu.mp h3,AI h1 h4];rfl
def Nq:eZ→Option D
  |[.lst ds]=>(Km ds).map fun bs=>.bl (bs.all id)
  |_=>none
theorem Ru{K:PySem.W.Frag}:xh K Nq (fun xs H Q=>∃(l:Addr) (bs:List Bool),xs=[.ref l]∧eW K H l (bs.map V.bl)∧Q (.bl (bs.all id)) H):=fun F H ds d vs Q b e h k=>by
  unfold Nq at e;split at e
  ·obtain⟨bs,h1,h2⟩:=iB.mp e;subst h2;obtain⟨v,rfl,h'⟩:=uE h;obtain⟨a,ws,rfl,h3,h4⟩:=aK.mp h';rw[AI h1 h4] at h3;exact⟨a,bs,rfl,h3,k _ (bu.mpr rfl)⟩
  ·cases e
end
end DL
namespace L2
open PySem PySem.Spec PyProof.Rows
def XI(x:Str):It:=⟨fun i _=>i<x.cps.size,fun i H v H'=>H'=H∧∃c,x.cps[i]?=some c∧v=.str ⟨#[c]⟩,fun i _=>x.cps.size≤i⟩
theorem AJ{K:PySem.W.Frag}{ty:String}{t:Tok}(it:Addr)(W:∀A:Around,A.handled=none→Walks P w A it [it] [it] x.cps.size (SignAt x) (fun i h=>h.IsStrIter it ty x t i))(hn:["enumerate","zip","dict_itemiterator","dict_reverseitemiterator","odict_iterator","itertools.zip_longest","itertools.pairwise"].contains ty=false)(hs:∀(A:Around) (i:Nat) (s:Shared) (Q:fR) (E:fR),s.heap.IsStrIter it ty x t i→Q (.ref it) s→wpAny (model P w) A (pyIter (.ref it)) Q E s)(hd:∀(A:Around) (i:Nat) (s:Shared) (Q:fu→Shared→Prop) (E:fR),A.handled=none→s.heap.IsStrIter it ty x t i→x.cps.size≤i→(∀h',(∀b o,b≠it→s.heap.get? b=some o→h'.get? b=some o)→Q none { s with heap:=h' })→wpAny (model P w) A (pyNext (.ref it)) Q E s) :
    Turn P w K tg (XI x) [it] it (fun i h=>h.IsStrIter it ty x t i) where
  mem:=by simp
  obj:=fun i h st b hb=>by
    have e:b=it:=by simpa using hb
    subst e;obtain⟨o,e,c,d⟩:=st;exact⟨o,e,fun v z=>by rw[d] at z;cases z⟩
  keep:=fun i h h' st k=>by obtain⟨o,e,c,d⟩:=st;exact⟨o,k it (by simp) o e,c,d⟩
  item:=by intro X hP hw hK hc i pins s σ H E I hf st hg;subst hP hw hK;obtain⟨f0,f1,f2,f3,f4,f5⟩:=hf it (by simp);refine(W X.A (I.ok.hd hc)).item i s _ _ hg st fun v h' tk hv sM kk=>?_;obtain⟨c,u,e1,rfl⟩:=hv;have I1:Inv X pins σ H { s with heap:=h',toks:=tk }:=I.turned (fun b o hb e=>kk b o (by simpa using hb) e) f0 f1 f3 f4 f5;obtain⟨o,e,cc,d⟩:=id sM;exact⟨_,rfl,D7 (s:={ s with heap:=h',toks:=tk }) e cc d hn ⟨.str ⟨#[c]⟩,H,I1,⟨u,rfl⟩,⟨rfl,c,e1,rfl⟩,sM,fun b hb=>(hf b hb).1⟩⟩
  done:=by intro X hP hw hK hc i pins s σ H E I hf st hg;subst hP hw hK;obtain⟨f0,f1,f2,f3,f4,f5⟩:=hf it (by simp);exact hd X.A i s _ _ (I.ok.hd hc) st hg fun h' eb=>⟨rfl,I.turned (t':=s.toks) (fun b o hb e=>eb b o hb e) f0 f1 f3 f4 f5⟩
  self:=hs
section
variable {X:Cx} {tg:Expr}
def XJ(tl:TE):TI:=fun σ H R=>tl σ H fun x H1=>∃y,x=.str y∧R (XI y) H1
theorem Rv{l:Expr}{tl:TE}(hl:PE X l tl):PI X tg l (XJ tl):=by
  intro pins s σ H R I h;refine cQ (hl pins s σ H _ I h) fun v s1 ⟨x,H1,I1,r1,q1⟩=>?_;obtain⟨y,e,q⟩:=q1;subst e;obtain⟨t,rfl⟩:=r1;have fp:∀b∈[s1.heap.objs.size],fQ X pins H1 b:=fun b hb=>by
    have e:b=s1.heap.objs.size:=by simpa using hb
    subst e;exact I1.tm (bG _) (I1.bU.fresh (bG _))
  cases ha:y.cps.all (·<128)
  · refine wpAny_pyIter_wide ha ?_;exact⟨s1.heap.objs.size,[s1.heap.objs.size],_,_,H1,rfl,I1.kept (t':=s1.toks) fun b o e=>eo _ e,
      AJ (ty:="str_iterator") (t:=t) _ (fun A hA=>Walks.strWide hA _ y t) (by decide) (fun _ _ _ _ _ st h=>wpAny_pyIter_striter_wide st h)
        (fun A i s Q E hA st hi k=>wpAny_pyNext_wide_end hA st (by simpa using hi) fun h' e=>k h' fun b o hb g=>e b o hb g),⟨_,cT _ rfl,rfl,rfl⟩,fp,q⟩
  · refine wpAny_pyIter_ascii ha ?_;exact⟨s1.heap.objs.size,[s1.heap.objs.size],_,_,H1,rfl,I1.kept (t':=s1.toks) fun b o e=>eo _ e,
      AJ (ty:="str_ascii_iterator") (t:=t) _ (fun A hA=>Walks.strAscii hA _ y t) (by decide) (fun _ _ _ _ _ st h=>wpAny_pyIter_striter_ascii st h)
        (fun A i s Q E hA st hi k=>wpAny_pyNext_ascii_end hA st (by simpa using hi) fun h' e=>k h' fun b o hb g=>e b o hb g),⟨_,cT _ rfl,rfl,rfl⟩,fp,q⟩
end
end L2
namespace DL
open PySem PySem.Spec L2
open PyProof.Rows hiding St
section
variable {X:Cx} {z:Zc} {tg e a b:Expr} {f fa fb:EF} {pos p:Pos} {K:PySem.W.Frag} {F:Hp}
def lr(x:Str):eZ:=x.cps.toList.map fun c=>D.str ⟨#[c]⟩
theorem Kn(hl:x.length≤sizeLine):Walk K z F (XI x) true (lr x) where
  go:=fun F' H' s g i hi=>by show i<x.cps.size;simpa[lr] using hi
  BI:=fun F' H' s g i d v Bv e y=>by obtain⟨rfl,c,h1,rfl⟩:=y;refine⟨F',aG.refl g.base,?_⟩;unfold lr at e;rw[eS] at e;obtain⟨c',h2,rfl⟩:=iB.mp e;rw[v3,h1] at h2;cases h2;show Den K F' _ _;exact aQ.mpr rfl
  stop:=fun F' H' s g=>by show x.cps.size≤_;simp[lr]
  len:=by
    have:(lr x).length=x.length:=by simp[lr,Str.length]
    rw[this];exact hl
def yC(f:EF):LF:=fun η=>(f η).bind fun d=>match d with|.str x=>if x.length≤1000 then some (lr x) else none|_=>none
theorem Rw(h:DB X z e f):DI X z tg e true (yC f):=PI.weak (Rv h) fun σ H R ⟨η,F,ds,r,e,k⟩=>by
  unfold yC at e;obtain⟨d,h1,h2⟩:=cR.mp e;cases d with
  |str x =>
   by_cases hc:x.length≤1000
   ·dsimp only at h2;rw[ay hc] at h2;cases h2;refine⟨η,F,_,r,h1,fun v H' F' g q=>?_⟩;exact⟨x,aQ.mp q,k _ H' F' g (Kn (ml (eF hc)))⟩
   ·dsimp only at h2;rw[az hc] at h2;cases h2
  |_=>cases h2
end
end DL
namespace NR
open PySem PySem.Spec PyProof.Rows
def fN(val:Nat→Str):Nat→dC
  |0=>[]
  |i+1=>if val i∈fN val i then fN val i else fN val i++[val i]
theorem u9(val:Nat→Str):∀i,(fN val i).length≤i
  |0=>bG _
  |i+1=>by
   have:=u9 val i;unfold fN;split
   ·omega
   ·simp;omega
theorem G3(val:Nat→Str)(i:Nat)(k:Str):decide (k∈fN val (i+1))=(decide (k∈fN val i)||decide (k=val i)):=by
  rw[fN];split
  · rename_i h;by_cases e:k=val i
    ·subst e;simp[h]
    ·simp[e]
  ·simp[Bool.decide_or]
theorem G4(val:Nat→Str)(i:Nat):(fN val (i+1)).length=if decide (val i∈fN val i)=true then(fN val i).length else(fN val i).length+1:=by rw[fN];by_cases h:val i∈fN val i<;>simp[h]
abbrev SS(prog:Program)(w:World)(h:Heap)(S:Addr)(val:Nat→Str)(i:Nat):Prop:=h.SetOf (PySem.strKind prog w) S (fun k=>decide (k∈fN val i)) (fN val i).length
section
variable {prog:Program} {w:World} {A:Around} {E:fR} {s:Shared} {items:Array Value} {l S:Addr} {val:Nat→Str}
theorem G5{U:Nat}(hn:items.size+1<scanBound)(yt:∀(i:Nat) (v:Value),items[i]?=some v→∃t,v=Value.str (val i) t):NS.qp prog w U items S (fun i h=>SS prog w h S val i) where
  gR:=fun i I h h' CB ⟨o,es,ep,tb,ho,rest⟩ k=>⟨o,es,ep,tb,k S o (dw CB) ho,rest⟩
  add:=fun B i v s Q E _ hv j hQ=>by
    obtain⟨t,e⟩:=yt i v hv;subst e;have is:(PySem.strKind prog w).is (val i) (.str (val i) t)=true:=show Value.isStrOf (val i) (.str (val i) t)=true by simp[Value.isStrOf]
    have hi:i<items.size:=(Array.getElem?_eq_some_iff.mp hv).1;have:=u9 val i;exact pI (aT ((PySem.strKind prog w).pyHash is (wpAny_setAddHashed_of (s:={ s with toks:=s.toks+1 }) is rfl j (by omega) fun h' x hS=>hQ _ h' _ (fun b o n e=>(x.2 b n).trans e) (SetOf_congr hS (fun k=>(G3 val i k).symm) (G4 val i).symm))))
theorem G6(hh:A.handled=none)(hl:s.heap.IsList l items)(h5:items.size+1<scanBound)(yt:∀(i:Nat) (v:Value),items[i]?=some v→∃t,v=Value.str (val i) t)(h:∀(h':Heap) (tk:Nat),SS prog w h' s.heap.objs.size val items.size→(∀b o,b<s.heap.objs.size→s.heap.get? b=some o→h'.get? b=some o)→Q (.ref s.heap.objs.size) { s with heap:=h',toks:=tk }):wpAny (model prog w) A (call (.type "set") [.ref l]) Q E s:=by
  have lt:l<s.heap.objs.size:=let ⟨_,ho,_⟩:=hl;bL ho
  have z:(s.heap.push (NS.lU (!NS.ll w))).objs.size=s.heap.objs.size+1:=kK _ _;exact NS.qp.call (G5 h5 yt) PySem.F.sub_list_set PySem.F.sub_list_frozenset (by decide) hl.typeIs (bG _) (fun h e _=>(setObjOf_fresh (!NS.ll w)).setOf e (by decide))
    (fun B Q E hq=>wpAny_pyIter_list (s:={ s with heap:=s.heap.push (NS.lU (!NS.ll w)) }) (hl.push _) hq)
    (NS.uQ (l:=l) (by simpa using hh) (Nat.succ_ne_self _) (dw lt) (dw (Nat.lt_succ_of_lt lt))) ⟨⟨_,by rw[←z];exact cT _ rfl,rfl,rfl⟩,(hl.push _).push _⟩ fun h' tk j k=>h h' tk j fun b o _ e=>k b o e
end
end NR
namespace DL
open PySem PySem.Spec L2
open PyProof.Rows hiding St
abbrev lY:=List (List Key×D)
structure Nr (X:Cx) (z:Zc) (e:Expr) (sel:aY→Option (Addr×lY)) (st:aY→lY→aY):Prop where
  ex:∃tE,PE X e tE∧∀σ H η F p ao,Rel X.K z F H σ η→sel η=some (p,ao) →
    (∃ws,H p=some (.dT ws)∧bV X.K F ao ws)∧(∀Q:VK,Q (.ref p) H→tE σ H Q) ∧
      ∀iq zu,bV X.K F iq zu→zu.length≤sizeLine→Rel X.K z F (upd H p (.dT zu)) σ (st η iq)
def Nt(C0:Addr)(i:Nat)(η:aY):Option (Addr×lY):=match η[i]? with
  |some (some (.bx p C _ ao))=>if C=C0 then some (p,ao) else none
  |_=>none
def SJ(i:Nat)(η:aY)(iq:lY):aY:=match η[i]? with
  |some (some (.bx p C ws _))=>η.set i (some (.bx p C ws iq))
  |_=>η
def Nu(i:Nat)(η:aY):Option (Addr×lY):=match η[i]? with
  |some (some (.od p ao))=>some (p,ao)
  |_=>none
def SK(i:Nat)(η:aY)(iq:lY):aY:=match η[i]? with
  |some (some (.od p _))=>η.set i (some (.od p iq))
  |_=>η
section
variable {X:Cx} {z:Zc}
theorem CY(i:Nat)(hN:X.N[i]?=some x:=by rfl)(hv:pL X.env.scope x:=by first|exact Or.inl rfl|exact Or.inr (Or.inl rfl)|exact Or.inr (Or.inr rfl))(iE:(x==("__debug__":Str))=false:=by decide)(dR:(x==("__classdict__":Str))=false:=by decide):Nr X z (.Name x px) (Nu i) (SK i):=⟨_,cM hN hv iE dR,fun σ H η F p ao r e=>by
  unfold Nu at e;split at e
  ·rename_i p' iq h;cases e;obtain⟨v,a1,a2⟩:=r.at_ i _ h;obtain⟨p1,o,⟨rfl,rfl⟩,h0,hF,hH,ws,rfl,hd⟩:=(bP (sl:=.od _ _) rfl).mp a2;refine⟨⟨ws,hH,hd⟩,fun Q q=>⟨_,a1,q⟩,fun UE zu Ht hl=>?_⟩;unfold SK;rw[h];exact r.writeAt h rfl rfl a1 ⟨rfl,rfl⟩ ⟨rfl,rfl⟩ ⟨zu,rfl,Ht⟩ hl
  ·cases e⟩
theorem yD(i:Nat){C0:Addr}(cl:vW X.K C0)(na:iD X.K C0 "lying")(hN:X.N[i]?=some x:=by rfl)(hv:pL X.env.scope x:=by first|exact Or.inl rfl|exact Or.inr (Or.inl rfl)|exact Or.inr (Or.inr rfl))(iE:(x==("__debug__":Str))=false:=by decide)(dR:(x==("__classdict__":Str))=false:=by decide)(hb:attributeBase (.Name x px) "lying" X.env (eval (.Name x px) X.env)=eval (.Name x px) X.env:=by rfl):Nr X z (.Attribute (.Name x px) "lying" apos) (Nt C0 i) (SJ i):=⟨_,xS (cM hN hv iE dR) hb,fun σ H η F p ao r e=>by
  unfold Nt at e;split at e
  · rename_i p' C Pa iq h;by_cases hc:C=C0
    ·rw[ay hc] at e;cases e;subst hc;obtain⟨v,a1,a2⟩:=r.at_ i _ h;obtain⟨p1,o,⟨rfl,a,dx,l,vs,rfl,b1,b2,b3⟩,h0,hF,hH,ws,rfl,hd⟩:=(bP (sl:=.bx _ _ _ _) rfl).mp a2;refine⟨⟨ws,hH,hd⟩,fun Q q=>⟨_,a1,a,C,dx,_,_,rfl,r.base.sub _ _ b1,cl,na,rfl,q⟩,fun UE zu Ht hl=>?_⟩;unfold SJ;rw[h];exact r.writeAt h rfl rfl a1 ⟨rfl,a,dx,l,vs,rfl,b1,b2,b3⟩ ⟨rfl,a,dx,l,vs,rfl,b1,b2,b3⟩ ⟨zu,rfl,Ht⟩ hl
    ·rw[az hc] at e;cases e
  ·cases e⟩
variable {e ek ed ev:Expr} {fk fd fv:EF} {pos:Pos} {sel:aY→Option (Addr×lY)} {st:aY→lY→aY}
def qA(sel:aY→Option (Addr×lY))(fk fd:EF):EF:=fun η=>(sel η).bind fun q=>(fk η).bind fun k=>(fd η).bind fun d=>(Cu k).map fun ks=>(oT q.2 ks).getD d
theorem yE(hu:X.A.units+1<cLine)(R:Nr X z e sel st)(hk:DB X z ek fk)(hd:DE X z ed fd)(m:M2 X e "get" apos ek ed aX:=by exact⟨rfl,rfl,rfl,rfl⟩):DE X z (.Call (.Attribute e "get" apos) [ek,ed] [] aX) (qA sel fk fd):=by
  obtain⟨tE,pe,at_⟩:=R.ex;refine PE.weak (zT hu pe hk hd m) fun σ H Q ⟨η,F,d,r,e,k⟩=>?_;unfold qA at e;obtain⟨⟨p,ao⟩,h1,e⟩:=cR.mp e;obtain⟨kd,h2,e⟩:=cR.mp e;obtain⟨d0,h3,e⟩:=cR.mp e;obtain⟨ks,h4,rfl⟩:=iB.mp e;obtain⟨⟨ws,a2,a3⟩,b1,_⟩:=at_ σ H η F p ao r h1;refine b1 _ ⟨p,rfl,.inr ⟨ws,.inl a2⟩,η,F,kd,r,h2,fun y H1 F1 g1 q1=>⟨η,F1,d0,r.grow g1,h3,fun w H2 F2 g2 q2=>?_⟩⟩;have uH:=g1.trans g2;refine⟨_,ym (F:=F2) (yl uH.ent (.inl a2)) (aL g2.ent _ _ q1) h4,k _ H2 F2 uH ?_⟩;obtain⟨c1,c2⟩:=qo ks (a3.mono uH.cz);cases hv:oT ao ks with
  |none=>rw[c2 hv];exact q2
  |some d'=>obtain⟨v,e1,e2⟩:=c1 d' hv;rw[e1];exact e2
def n5(sel:aY→Option (Addr×lY))(st:aY→lY→aY)(fk fv:EF):SF:=fun η=>(fv η).bind fun v=>(fk η).bind fun k=>(Cu k).bind fun ks=>(sel η).bind fun q =>
  if q.2.length<10000 then some (.nx (st η (putD q.2 ks v))) else none
theorem tZ(hu:X.A.units+1<cLine)(R:Nr X z e sel st)(hk:DB X z ek fk)(hw:DE X z ev fv)(hs:swapsWith ev (some (.Subscript e ek pos')) pos.line X.env=pure false:=by rfl):DS X z (.Assign [.Subscript e ek pos'] ev pos) (n5 sel st fk fv):=by
  obtain⟨tE,pe,at_⟩:=R.ex;refine PS.weak (Ej hu pe hk hw hs) fun D σ H ⟨η,F,o,r,e,k⟩=>?_;unfold n5 at e;obtain⟨dv,h1,e⟩:=cR.mp e;obtain⟨kd,h2,e⟩:=cR.mp e;obtain⟨ks,h3,e⟩:=cR.mp e;obtain⟨⟨p,ao⟩,h4,e⟩:=cR.mp e;by_cases hl:ao.length<10000
  · dsimp only at e;rw[ay hl] at e;cases e;refine⟨η,F,dv,r,h1,fun v H1 F1 g1 q1=>?_⟩;have r1:=r.grow g1;obtain⟨⟨ws,a4,a5⟩,b1,_⟩:=at_ σ H1 η F1 p ao r1 h4;refine b1 _ ⟨η,F1,kd,r1,h2,fun y H2 F2 g2 q2=>?_⟩;have r2:=r1.grow g2;obtain⟨⟨ws2,a42,a52⟩,_,b3⟩:=at_ σ H2 η F2 p ao r2 h4;have Xu:ws2.length<10000:=by rw[←ja a52];exact hl
    cases kd with
    |tup ds=>obtain⟨a,vs,rfl,c1,c2⟩:=aI.mp q2;rw[ql c2 h3] at c1;refine⟨p,_,rfl,Gn.t a42 c1 (jX Xu (Ci (bG _))),?_⟩;refine k _ _ F2 (b3 _ _ (Ap ks a52 (aL g2.cz _ _ q1)) ?_) (g1.cz.trans g2.cz);have:=jK ws2 ks v;exact gy this (Ci (by omega))
    |_=>cases h3
  ·dsimp only at e;rw[az hl] at e;cases e
def mQ(C0:Addr)(i:Nat):EF:=fun η=>match η[i]? with
  |some (some (.bx _ C ws _))=>if C=C0 then some (.lst ws) else none
  |some (some (.bb C ws _))=>if C=C0 then some (.lst ws) else none
  |_=>none
theorem vd(i:Nat){C0:Addr}(cl:vW X.K C0)(na:iD X.K C0 "words")(hN:X.N[i]?=some x:=by rfl)(hv:pL X.env.scope x:=by first|exact Or.inl rfl|exact Or.inr (Or.inl rfl)|exact Or.inr (Or.inr rfl))(iE:(x==("__debug__":Str))=false:=by decide)(dR:(x==("__classdict__":Str))=false:=by decide)(hb:attributeBase (.Name x px) "words" X.env (eval (.Name x px) X.env)=eval (.Name x px) X.env:=by rfl):DB X z (.Attribute (.Name x px) "words" apos) (mQ C0 i):=PE.weak (xS (cM hN hv iE dR) hb) fun σ H Q ⟨η,F,d,r,e,k⟩=>by
  have fin:∀(E:Hp) (v:V) (C:Addr) (ws:eZ) (p:Addr),bH E H→ip X.K E v C ws p→C=C0→d=.lst ws→σ[i]?=some (some v)→TB X.K (jY i) "words" σ H Q:=fun E v C ws p s b hc hd hv=>by subst hc hd;obtain⟨a,dx,l,vs,rfl,b1,b2,b3⟩:=b.mono s;exact⟨_,hv,a,C,dx,_,_,rfl,b1,cl,na,rfl,k _ H F (aG.refl r.base) (aK.mpr ⟨l,vs,rfl,b2,b3⟩)⟩
  unfold mQ at e;split at e
  · rename_i p C ws ao h;by_cases hc:C=C0
    ·rw[ay hc] at e;cases e;obtain⟨v,a1,a2⟩:=r.at_ i _ h;obtain⟨p1,o,⟨_,bb⟩,_⟩:=(bP (sl:=.bx p C ws ao) rfl).mp a2;exact fin F v C ws p r.base.sub bb hc rfl a1
    ·rw[az hc] at e;cases e
  · rename_i C ws ao h;by_cases hc:C=C0
    ·rw[ay hc] at e;cases e;obtain⟨v,a1,p,ob,wv,bb,_⟩:=r.at_ i _ h;exact fin z.H₀ v C ws p r.mem.ent bb hc rfl a1
    ·rw[az hc] at e;cases e
  ·cases e
end
end DL
namespace L2
open PySem PySem.Spec PyProof.Rows PySem.W MB
section
variable {prog:Program} {w:World} {A:Around} {E:fR} {s:Shared}
theorem yF{Q:fu→Shared→Prop}(hit:s.heap.IsValIter it d i es.size ep)(hm:fB s.heap d es ep)(dY:i<es.size)(hQ:∀h',h'.IsValIter it d (i+1) es.size ep→Heap.SameBut it s.heap h'→Q (some es[i].val) { s with heap:=h' }):wpAny (model prog w) A (pyNext (.ref it)) Q E s:=by
  have hT:=hit.typeIs;have wx:=hit;have yb:=hm;obtain⟨o,ho,hc,hd⟩:=wx;obtain⟨od,z8,dR,z9⟩:=yb;refine aT (wpAny_attempt (vZ hT F.slot_dict_valueiterator_next (nL F.slot_dict_valueiterator_next hT F.entry_dict_valueiterator_next ?_ (F.args_dict_valueiterator_next_1 _))));unfold Builtin.«dict_valueiterator.__next__»
  wp_walk using wpAny_typeNameOfWhole_valiter hT,wpAny_fieldsOf ho hd,xF z8 z9,wpAny_dictEpoch z8 z9
  rw[show(if (i:Int)<0 then none else es[(i:Int).toNat]?)=some es[i] by rw[az (by omega),rj,ug dY]];refine aT (aT (wpAny_typeNameOfWhole_valiter hT (cu (aT (wpAny_isOneOf_valiter hT (aT ?_))))));have up:∀(f:Obj→Obj),f=Obj.mapFields (·.setIfInBounds 1 (rawInt ((i:Int)+1)))→(s.heap.update it f).IsValIter it d (i+1) es.size ep:=fun f e=>by subst e;exact⟨_,sX _ ho (Obj.isFreed_of_fields (Obj.data_mapFields hd _)),(Obj.cls_mapFields ..).trans hc,(Obj.data_mapFields hd _).trans (by simp[rawInt])⟩
  refine wpAny_setField (i:=1) (x:=rawInt ((i:Int)+1)) ho hd (by simp) (aT (pI ?_));have QL:=(up _ rfl).typeIs (s:={ s with heap:=s.heap.update it (Obj.mapFields (·.setIfInBounds 1 (rawInt ((i:Int)+1)))) });exact aT (wpAny_isOneOf_valiter QL (aT (wpAny_isOneOf_valiter QL (cu (cu ⟨_,rfl,cu (hQ _ (up _ rfl) (pE ..))⟩)))))
theorem AK{Q:fu→Shared→Prop}(hh:A.handled=none)(hit:s.heap.IsValIter it d i es.size ep)(hm:fB s.heap d es ep)(hx:es.size≤i)(hQ:∀h',Heap.ExtBut it s.heap h'→Q none { s with heap:=h' }):wpAny (model prog w) A (pyNext (.ref it)) Q E s:=by
  have hT:=hit.typeIs;have yb:=hm;obtain⟨o,ho,hc,hd⟩:=hit;obtain⟨od,z8,dR,z9⟩:=yb;refine aT (wpAny_attempt (vZ hT F.slot_dict_valueiterator_next (nL F.slot_dict_valueiterator_next hT F.entry_dict_valueiterator_next ?_ (F.args_dict_valueiterator_next_1 _))));unfold Builtin.«dict_valueiterator.__next__»
  wp_walk using wpAny_typeNameOfWhole_valiter hT,wpAny_fieldsOf ho hd,xF z8 z9,wpAny_dictEpoch z8 z9
  rw[show(if (i:Int)<0 then none else es[(i:Int).toNat]?)=none by rw[az (by omega),rj,BD hx]];refine aT (aT (wpAny_typeNameOfWhole_valiter hT (cu (aT (wpAny_setField (i:=0) (x:=.none) ho hd (by simp) ?_)))));have s1:=pE s.heap it (Obj.mapFields (·.setIfInBounds 0 Value.none))
  wp_walk
  unfold raiseNew;have Hz:A.in1.handled=none:=by simpa using hh
  refine aT (wpAny_handled ?_);rw[Hz];refine aT (cu (wpAny_throw ?_));refine aT (wpAny_isInstance ⟨_,cT _ rfl,rfl⟩ isSubtype_stop (cu (hQ _ fun b o n e=>?_)));exact eo _ (eo _ (s1.extBut b o n e))
theorem yG{v:Addr}(hv:s.heap.IsValuesView v d)(hm:fB s.heap d es ep)(hQ:Q (.ref s.heap.objs.size) { s with heap:=s.heap.push { cls:=.type "dict_valueiterator",data:=.fields #[.ref d,.int 0 0,.int es.size 0,.int ep 0] } }):wpAny (model prog w) A (pyIter (.ref v)) Q E s:=by
  have xR:=hv;have yb:=hm;obtain⟨ov,XM,hcv,SM⟩:=xR;obtain⟨o,ho,hc,Ko⟩:=yb;refine wpAny_pyIter_slot hv.typeIs F.slot_dict_values_iter (nL F.slot_dict_values_iter hv.typeIs F.entry_dict_values_iter ?_ (F.args_dict_values_iter_1 _))
  wp_walk using wpAny_field XM SM rfl,xF ho Ko,wpAny_dictEpoch ho Ko
  exact⟨_,rfl,_,_,⟨_,cT _ rfl,rfl⟩,F.slot_dict_valueiterator_next.lookup,by simpa[show Builtin.Dict_items.ownsTuple "dict_valueiterator"=false by decide,rawInt] using hQ⟩
theorem qC(hd:(d==sysModules)=false):MeetsIn prog w (Builtin.«dict.values» ⟨[.ref d],[]⟩) (fun _ R s=>(∃es ep,fB s.heap d es ep)∧R (.ok (.ret (.ref s.heap.objs.size))) { s with heap:=s.heap.push { cls:=.type "dict_values",data:=.fields #[.ref d] } }) :=
  .of_wp fun A R s ⟨⟨es,ep,o,ho,hc,_⟩,h⟩=>by
    refine aT (show wpAny _ _ (Builtin.Dict.noArgs "values" _) _ _ s from ?_);unfold Builtin.Dict.noArgs;refine aT (wpAny_notOrdered_dict ⟨o,ho,hc.1⟩ ?_);have gR:wpAny (model prog w) A.in1 (Builtin.Dict.showsAll d) (fun _ s'=>s'=s) (fun e s'=>R (.error e) s') s:=by unfold Builtin.Dict.showsAll;rw[hd];exact cu rfl
    exact cu (aT (mq gR (fun _ _ e=>by subst e;exact aT (wpAny_newObj_type (cu ⟨_,rfl,h⟩))) fun _ _ h=>h))
theorem G7(hh:A.handled=none)(I d:Addr)(lX:d≠I)(es:Array DictEntry)(ep:Nat) :
    Walks prog w A I [I,d] [I] es.size (fun i v=>∃e,es[i]?=some e∧v=e.val) (fun i h=>h.IsValIter I d i es.size ep∧fB h d es ep) where
  sub:=fun b hb=>by simp at hb;simp[hb]
  frame:=fun _ _ _ st hk=>⟨st.1.at fun o e=>hk I (by simp) o e,st.2.at fun o e=>hk d (by simp) o e⟩
  item:=fun i s Q E hi st hQ=>by refine yF st.1 st.2 hi fun h' wx HB=>?_;exact hQ _ h' s.toks ⟨_,ug hi,rfl⟩ ⟨wx,st.2.at fun o e=>HB.extBut d o lX e⟩ fun b o hb e=>HB.extBut b o (fun h=>hb (by simp[h])) e
  done:=fun s Q E st hQ=>AK hh st.1 st.2 (bG _) fun h' Uy=>hQ h' s.toks fun b o hb e=>Uy b o (fun h=>hb (by simp[h])) e
  self:=fun _ _ _ _ st hQ=>wpAny_pyIter_valiter st.1 hQ
end
section
variable {prog:Program} {w:World} {A:Around} {E:fR} {s:Shared} {r d:Addr} {es:Array DictEntry} {ep:Nat}
theorem Fh:KdlSrc prog w "dict_values" r d es.size (fun i v=>∃e,es[i]?=some e∧v=e.val) (fun h=>h.IsValuesView r d∧fB h d es ep) where
  type:=fun _ hm=>hm.1.typeIs
  there:=fun _ hm=>⟨let ⟨_,ho,_⟩:=hm.1;bL ho,hm.2.lt⟩
  keep:=fun _ _ hm hk=>⟨let ⟨o,ho,x⟩:=hm.1;⟨o,hk r (.inl rfl) o ho,x⟩,hm.2.at fun o e=>hk d (.inr rfl) o e⟩
  notList:=by decide
  notTuple:=by decide
  hint:=fun _ _ _ _ hm hq=>kdl_hint_values hm.1.typeIs hq
  iter:=fun _ _ hh hm=>⟨_,_,(fun _ _ hq=>yG hm.1 hm.2 hq),G7 hh _ d (dw hm.2.lt) es ep,⟨⟨_,cT _ rfl,rfl,rfl⟩,hm.2.at fun o e=>eo _ e⟩⟩
theorem Nv{P:Nat→Value→Prop}{OK:Heap→Prop}(K:KdlSrc prog w T r d n P OK)(hh:A.handled=none)(bU:OK s.heap)(val:Nat→Int)(yt:∀(i:Nat) (v:Value),P i v→∃t:Tok,v=Value.int (val i) t)(h:∀(h':Heap) (tk:Nat) (t':Tok),(∀b o,s.heap.get? b=some o→h'.get? b=some o)→Q (.int (preSum val n) t') { s with heap:=h',toks:=tk }):wpAny (model prog w) A (call (.builtin "sum") [.ref r]) Q E s:=by
  refine call_sum_walkAnyS ?_;obtain⟨oI,St,hit,W,st⟩:=K.iter A.in1 s hh bU;refine hit _ _ ⟨s.heap.objs.size,_,_,_,n,P,_,val,rfl,W.toS,st,fun b hb=>?_,yt,fun s' t' hm=>?_⟩
  · show b<(s.heap.push oI).objs.size;rw[kK];rcases dm.mp hb with e|hb
    ·rw[e];exact Nat.lt_succ_self _
    ·rw[List.mem_singleton.mp hb];exact Nat.lt_succ_of_lt (K.there _ bU).2
  ·rw[Moved.eq_with hm];exact h s'.heap s'.toks t' fun b o e=>hm.heap b o (fun hI=>absurd (bL e) (by rw[List.mem_singleton.mp hI];exact rn _)) (eo _ e)
end
section
variable {X:Cx} {e:Expr} {tE:TE} {p apos aX pos:Pos}
theorem AO{α β:Type}{R:α→β→Prop}:∀{xs:List α} {ys:List β},Paired R xs ys→∀{i:Nat} {y:β},ys[i]?=some y→∃x,xs[i]?=some x∧R x y
  |_,_,.nil,i,y,e=>by simp at e
  |_,_,.cons h t,0,y,e=>by simp at e;subst e;exact⟨_,rfl,h⟩
  |_,_,.cons h t,i+1,y,e=>by obtain⟨x,h1,h2⟩:=AO t (by simpa using e);exact⟨x,by simpa using h1,h2⟩
theorem preSum_eq{val:Nat→Int}(h:∀(i:Nat) n,ns[i]?=some n→val i=n):preSum val ns.length=ns.sum:=by
  have key:∀(k:Nat),k≤ns.length→preSum val k=(ns.take k).sum:=fun k=>by
    induction k with
    |zero=>intro _;simp[preSum]
    |succ k ih =>
     intro hk;have dY:k<ns.length:=hk;have e1:ns.take (k+1)=ns.take k++[ns[k]]:=by rw[List.take_succ,eP dY];rfl
     have e2:(ns.take k++[ns[k]]).sum=(ns.take k).sum+ns[k]:=by rw[List.sum_append,List.sum_cons,List.sum_nil];omega
     rw[preSum,ih (ml dY),h k _ (eP dY),e1,e2]
  rw[key _ (bG _),List.take_length]
def UG(tE:TE):TE:=fun σ H Q=>tE σ H fun x H1=>∃q ws ns,x=.ref q∧Rd H1 q (.dT ws)∧ws.map (·.2)=ns.map V.int∧Q (.int (List.sum ns)) H1
theorem CZ(hc:X.calm=true)(wH:Gl X "sum")(nX:X.mg "sum"=none)(he:PE X e tE)(cG:attributeBase e "values" X.env (eval e X.env)=eval e X.env:=by rfl)(hline:(apos.endLine==aX.line)=true:=by rfl)(ku:starEach [Expr.Call (.Attribute e "values" apos) [] [] aX] X.env=(false,eval (.Call (.Attribute e "values" apos) [] [] aX) X.env)::starEach [] X.env:=by rfl)(UH:bootBuiltins "sum"=some (.builtin "sum"):=by decide +kernel):PE X (.Call (.Name "sum" p) [.Call (.Attribute e "values" apos) [] [] aX] [] pos) (UG tE):=by
  intro pins s σ H Q I h;refine sZ (gU I wH nX UH ?_ (by decide) (by decide));refine PyProof.Rows.callWith_builtin1 ?_ ku rfl;rw[ku];show wpAny _ _ (spliced ((false,eval (.Call (.Attribute e "values" apos) [] [] aX) X.env)::backTo pos (starEach [] X.env))) _ _ s;refine v9 ?_;refine wpAny_Call_method0_late cG hline (cQ (he pins s σ H _ I h) fun v s1 ⟨x,H1,I1,r1,q1⟩=>?_);obtain⟨q,ws,ns,rfl,hq,hv,k⟩:=q1;cases r1;have bU:bR X.prog X.w H1 s1.heap q (.dT ws):=by
    rcases hq with hq|⟨ob,hq⟩
    ·exact I1.bU q _ hq
    ·exact(I1.bU q _ hq).2
  obtain⟨hz,Dc,xs,hp,o,es,ep,ho,hex,hd,yr,J0⟩:=bU;have h1:s1.TypeIs (.ref q) "dict":=⟨o,ho,hex.1⟩
  have h2:∀a,Value.ref q=.ref a→∃ob,s1.heap.get? a=some ob∧ob.dict=none:=fun a e=>by cases e;exact⟨o,ho,hex.2.1⟩
  refine⟨"dict","dict.values",PySem.F.plainAttrs_dict,PySem.F.slot_dict_values,PySem.F.type_dict_values,h1,h2,Calls.callWith_builtin rfl (PySem.evalArgs_none ?_)⟩;have hr:fB s1.heap q es ep:=⟨o,ho,hex,hd⟩
  refine call_meetsIn PySem.F.slot_dict_values h1 PySem.F.entry_dict_values (PySem.F.args_dict_values_1 _) (qC Dc) ⟨⟨es,ep,hr⟩,?_⟩;refine xG ?_;have hh:X.A.handled=none:=I1.ok.hd hc;have hlen:es.size=ns.length:=by rw[←jc,yr,fG,←pJ hp,←fG (f:=fun p:List Key×V=>p.2) (as:=ws),hv,fG]
  refine Nv (s:={ s1 with heap:=s1.heap.push { cls:=.type "dict_values",data:=.fields #[.ref q] } }) (Fh (r:=s1.heap.objs.size) (d:=q) (es:=es) (ep:=ep)) hh ⟨⟨_,cT _ rfl,rfl,rfl⟩,hr.at fun o e=>eo _ e⟩ (fun i=>ns.getD i 0) (fun i v xR=>?_) fun h' tk t' hk=>?_
  · obtain⟨en,e1,rfl⟩:=xR;rw[←v3,yr,eS] at e1;obtain⟨y,e2,rfl⟩:=iB.mp e1;obtain⟨x,e3,-,-,e4⟩:=AO hp e2;have e5:(ws.map (·.2))[i]?=some x.2:=by rw[eS,e3];rfl
    rw[hv,eS] at e5;obtain⟨n,e6,e7⟩:=iB.mp e5;rw[←e7] at e4;obtain⟨t,e8⟩:=e4;refine⟨t,?_⟩;rw[jb,e6];exact e8
  ·rw[hlen,preSum_eq (ns:=ns) fun i n e=>by rw[jb,e];rfl];exact⟨.int _,H1,I1.kept (h':=h') (t':=tk) fun b o e=>hk b o (eo _ e),⟨_,rfl⟩,k⟩
end
end L2
namespace DL
open PySem PySem.Spec L2
open PyProof.Rows hiding St
structure UI (X:Cx) (z:Zc) (e:Expr) (sel:aY→Option lY):Prop where
  ex:∃tE,PE X e tE∧∀σ H η F ao,Rel X.K z F H σ η→sel η=some ao→∃p ws,Rd H p (.dT ws)∧bV X.K H ao ws∧∀Q:VK,Q (.ref p) H→tE σ H Q
def V8(C0:Addr)(i:Nat)(η:aY):Option lY:=match η[i]? with
  |some (some (.bx _ C _ ao))=>if C=C0 then some ao else none
  |some (some (.bb C _ ao))=>if C=C0 then some ao else none
  |_=>none
def Pt(i:Nat)(η:aY):Option lY:=match η[i]? with
  |some (some (.od _ ao))=>some ao
  |some (some (.bd ao))=>some ao
  |_=>none
section
variable {X:Cx} {z:Zc} {e:Expr} {p apos aX pos:Pos} {sel:aY→Option lY}
theorem Pu(i:Nat)(hN:X.N[i]?=some x:=by rfl)(hv:pL X.env.scope x:=by first|exact Or.inl rfl|exact Or.inr (Or.inl rfl)|exact Or.inr (Or.inr rfl))(iE:(x==("__debug__":Str))=false:=by decide)(dR:(x==("__classdict__":Str))=false:=by decide):UI X z (.Name x px) (Pt i):=⟨_,cM hN hv iE dR,fun σ H η F ao r e=>by
  unfold Pt at e;split at e
  ·rename_i p' iq h;cases e;obtain⟨v,a1,a2⟩:=r.at_ i _ h;obtain⟨p1,o,⟨rfl,rfl⟩,h0,hF,hH,ws,rfl,hd⟩:=(bP (sl:=.od _ _) rfl).mp a2;exact⟨_,ws,.inl hH,hd.mono r.base.sub,fun Q q=>⟨_,a1,q⟩⟩
  ·rename_i iq h;cases e;obtain⟨v,a1,p1,ob,wv,rfl,hH,hd⟩:=r.at_ i _ h;exact⟨p1,wv,.inr ⟨ob,r.mem.ent _ _ hH⟩,hd.mono r.mem.ent,fun Q q=>⟨_,a1,q⟩⟩
  ·cases e⟩
theorem UJ(i:Nat){C0:Addr}(cl:vW X.K C0)(na:iD X.K C0 "lying")(hN:X.N[i]?=some x:=by rfl)(hv:pL X.env.scope x:=by first|exact Or.inl rfl|exact Or.inr (Or.inl rfl)|exact Or.inr (Or.inr rfl))(iE:(x==("__debug__":Str))=false:=by decide)(dR:(x==("__classdict__":Str))=false:=by decide)(hb:attributeBase (.Name x px) "lying" X.env (eval (.Name x px) X.env)=eval (.Name x px) X.env:=by rfl):UI X z (.Attribute (.Name x px) "lying" apos) (V8 C0 i):=⟨_,xS (cM hN hv iE dR) hb,fun σ H η F ao r e=>by
  unfold V8 at e;split at e
  · rename_i p' C Pa iq h;by_cases hc:C=C0
    ·rw[ay hc] at e;cases e;subst hc;obtain⟨v,a1,a2⟩:=r.at_ i _ h;obtain⟨p1,o,⟨rfl,a,dx,l,vs,rfl,b1,b2,b3⟩,h0,hF,hH,ws,rfl,hd⟩:=(bP (sl:=.bx _ _ _ _) rfl).mp a2;exact⟨_,ws,.inl hH,hd.mono r.base.sub,fun Q q=>⟨_,a1,a,C,dx,_,_,rfl,r.base.sub _ _ b1,cl,na,rfl,q⟩⟩
    ·rw[az hc] at e;cases e
  · rename_i C Pa iq h;by_cases hc:C=C0
    ·rw[ay hc] at e;cases e;subst hc;obtain⟨v,a1,p1,ob,wv,⟨a,dx,l,vs,rfl,b1,b2,b3⟩,hH,hd⟩:=r.at_ i _ h;exact⟨p1,wv,.inr ⟨ob,r.mem.ent _ _ hH⟩,hd.mono r.mem.ent,fun Q q=>⟨_,a1,a,C,dx,_,_,rfl,r.mem.ent _ _ b1,cl,na,rfl,q⟩⟩
    ·rw[az hc] at e;cases e
  ·cases e⟩
theorem ve{K:PySem.W.Frag}{F:Hp}:∀{ao:lY} {ws:List (List Key×V)} {ns:bK},bV K F ao ws→qe (ao.map (·.2))=some ns→ws.map (·.2)=ns.map V.int
  |_,_,ns,.nil,e=>by cases e;rfl
  |k::ao,w::ws,ns,.cons h t,e=>by
   obtain⟨h1,h2⟩:=h;cases hk:k.2 with
   |int i=>rw[cB,hk] at e;obtain⟨r,e1,e2⟩:=iB.mp e;subst e2;rw[hk] at h2;rw[cB,cB,aD.mp h2,ve t e1]
   |_=>rw[cB,hk] at e;cases e
def Fi(sel:aY→Option lY):EF:=fun η=>(sel η).bind fun ao=>(qe (ao.map (·.2))).map fun ns=>.int ns.sum
theorem Dd(hc:X.calm=true)(wH:Gl X "sum")(nX:X.mg "sum"=none)(R:UI X z e sel)(cG:attributeBase e "values" X.env (eval e X.env)=eval e X.env:=by rfl)(hline:(apos.endLine==aX.line)=true:=by rfl)(ku:starEach [Expr.Call (.Attribute e "values" apos) [] [] aX] X.env=(false,eval (.Call (.Attribute e "values" apos) [] [] aX) X.env)::starEach [] X.env:=by rfl):DE X z (.Call (.Name "sum" p) [.Call (.Attribute e "values" apos) [] [] aX] [] pos) (Fi sel):=by
  obtain⟨tE,pe,at_⟩:=R.ex;refine PE.weak (CZ hc wH nX pe cG hline ku B9) fun σ H Q ⟨η,F,d,r,e,k⟩=>?_;unfold Fi at e;obtain⟨ao,h1,e⟩:=cR.mp e;obtain⟨ns,h2,rfl⟩:=iB.mp e;obtain⟨q,ws,a1,a2,a3⟩:=at_ σ H η F ao r h1;exact a3 _ ⟨q,ws,ns,rfl,a1,ve a2 h2,k _ H F (aG.refl r.base) (aD.mpr rfl)⟩
end
end DL
namespace DL
open PySem PySem.Spec L2
open PyProof.Rows hiding St pairAt
def ka(n:Nat)(vf:List Slot):aY:=vf.map some++List.replicate (n-vf.length) none
def AQ:List Nat→aY→Option (List (Addr×lY))
  |[],_=>some []
  |i::is,η=>match η[i]? with
   |some (some (.bx p _ _ ao))=>(AQ is η).map ((p,ao)::·)
   |some (some (.od p ao))=>(AQ is η).map ((p,ao)::·)
   |_=>none
section
variable {K:PySem.W.Frag} {z:Zc} {F H:Hp} {σ:St} {η:aY}
theorem qD(r:Rel K z F H σ η):∀{is:List Nat} {l:List (Addr×lY)},AQ is η=some l→∀q∈l,z.H₀ q.1=none∧F q.1=none∧∃ws,H q.1=some (.dT ws)∧bV K F q.2 ws
  |[],l,e,q,hq=>by cases e;cases hq
  |i::is,l,e,q,hq=>by
   unfold AQ at e;split at e
   · rename_i p C Pa ao h;obtain⟨l',e1,rfl⟩:=iB.mp e;rcases dm.mp hq with rfl|hq
     ·obtain⟨v,a1,a2⟩:=r.at_ i _ h;obtain⟨p1,o,⟨rfl,_⟩,h0,hF,hH,ws,rfl,hd⟩:=(bP (sl:=.bx _ _ _ _) rfl).mp a2;exact⟨h0,hF,ws,hH,hd⟩
     ·exact qD r e1 q hq
   · rename_i p ao h;obtain⟨l',e1,rfl⟩:=iB.mp e;rcases dm.mp hq with rfl|hq
     ·obtain⟨v,a1,a2⟩:=r.at_ i _ h;obtain⟨p1,o,⟨rfl,_⟩,h0,hF,hH,ws,rfl,hd⟩:=(bP (sl:=.od _ _) rfl).mp a2;exact⟨h0,hF,ws,hH,hd⟩
     ·exact qD r e1 q hq
   ·cases e
theorem vg{α:Type}{xs:List α}{m:Nat}{a:α}(h:(xs.map some++List.replicate m none)[i]?=some (some a)):(xs.map some)[i]?=some (some a):=by
  by_cases hi:i<xs.length
  ·rwa[xC (by simpa using hi)] at h
  ·rw[xB (by simpa using Nat.le_of_not_lt hi),List.getElem?_replicate] at h;split at h<;>cases h
theorem Rx{α:Type}{xs:List α}{m:Nat}{a:Option α}(h:(xs.map some)[i]?=some a):(xs.map some++List.replicate m none)[i]?=some a:=by have hi:=(kJ.mp h).1;rw[xC hi];exact h
theorem Fj{vf:List Slot}(m:Nat)(r:Rel K z F H (vs.map some) (vf.map some)):Rel K z F H (vs.map some++List.replicate m none) (vf.map some++List.replicate m none) where
  mem:=r.mem
  len:=by have:=r.len;rw[lZ,lZ,this];simp
  at_:=fun i sl e=>by obtain⟨v,h1,h2⟩:=r.at_ i sl (vg e);exact⟨v,Rx h1,h2⟩
  apart:=fun i j si sj vi vj p pA ei ej oi oj hi hj=>r.apart i j si sj vi vj p pA (vg ei) (vg ej) oi oj (vg hi) (vg hj)
end
def Bw(n:Nat)(own:List Nat)(g:SF):List Slot→eY:=fun vf=>match g (ka n vf) with
  |some (.rt r)=>some r
  |some (.nx η)=>(AQ own η).map fun l=>.rw .non l
  |_=>none
def spS(K:PySem.W.Frag)(n:Nat)(Fn:List Slot→eY):Sp:=fun vs H Q E=>∃F H₀ vf r,vs.length=n∧Rel K (zX F H₀ E) F H (vs.map some) (vf.map some)∧Fn vf=some r∧UC K F H₀ r Q E
theorem t4{K:PySem.W.Frag}{base:Heap}{st:Stmt}{f:Addr}{ps:dC}{own:List Nat}{g:SF}(Fu:lW K x qual st f fd)(S:bq N ps (aj st))(hb:∀(di:Value) (A:Around) (outer:List Env) (s:Shared) (H:Hp) (E:XK) (F₀ H₀:Hp),cU k (A.deeper (envOfC qual (aj st) s.heap.objs.size f di))→Ji (wg (CP P w) P w K mg base N qual (aj st) f di A outer s H E) (zX F₀ H₀ E) (bA st) g):cD P w K mg base (CP P w) (k+1) f fd ps (spS K ps.length (Bw N.length own g)):=by
  obtain⟨oc,od,kV,doc,pm,an,di,ct,wc,rfl,lk,dR⟩:=Fu.ex;refine Im lk dR S (fun vs H Q E h=>?_) (fun A outer s H vs Q E hr h=>?_)
  ·obtain⟨F,H₀,vf,r,hl,_⟩:=h;exact hl
  · obtain⟨F,H₀,vf,r,hl,rl,e,q⟩:=h;refine⟨_,hb di A outer s H E F H₀ hr,?_⟩;have hlen:vs.length=vf.length:=by have:=rl.len;simpa using this
    have XO:Rel K (zX F H₀ E) F H (L2.start N vs) (ka N.length vf):=by unfold L2.start ka;rw[←hlen];exact Fj _ rl
    unfold Bw at e;cases o:g (ka N.length vf) with
    |none=>rw[o] at e;cases e
    |some o' =>
     rw[o] at e;refine⟨_,F,o',XO,o,?_⟩;cases o' with
     |rt r'=>cases e;cases r<;>exact q
     |nx η'=>obtain⟨l,e1,rfl⟩:=iB.mp e;exact fun σ' H' F' r' _=>q .non H' F' r'.mem (bI.mpr rfl) (qD r' e1)
     |bk _=>cases e
     |ct _=>cases e
theorem oX:Passes (CP X.prog X.w) X E0:=fun _ _ _ _ _ _ _ h=>by obtain⟨_,_,_,_,_,_,_,_,_,q⟩:=h;exact q.elim
def UK(C0:Addr)(i:Nat)(η:aY):eY:=match η[i]? with
  |some (some (.bb C ws ao))=>if C=C0 then some (.bb C ws ao) else none
  |_=>none
section
variable {K:PySem.W.Frag} {z:Zc} {F H:Hp} {σ:St} {η:aY} {C0:Addr} {i:Nat} {sl:Slot}
theorem Ry(r:Rel K z F H σ η)(e:UK C0 i η=some sl):∃a dx l p ws ao,σ[i]?=some (some (.ref a))∧H a=some (.ins C0 dx [("words",.ref l),("lying",.ref p)])∧sl=.bb C0 ws ao∧∃ob wv,ip K H (.ref a) C0 ws p∧H p=some (.gL ob (.dT wv))∧bV K H ao wv:=by
  unfold UK at e;split at e
  · rename_i C Pa iq h;by_cases hc:C=C0
    ·rw[ay hc] at e;cases e;subst hc;obtain⟨v,a1,p1,ob,wv,bb,hH,hd⟩:=r.at_ i _ h;obtain⟨a,dx,l,vs,rfl,b1,b2,b3⟩:=id bb;obtain⟨a',Xn,l',Z9,e',b1',_⟩:=id bb;cases e';rw[b1] at b1';exact⟨a,dx,l,p1,Pa,iq,a1,r.mem.ent _ _ b1,rfl,ob,wv,bb.mono r.mem.ent,r.mem.ent _ _ hH,hd.mono r.mem.ent⟩
    ·rw[az hc] at e;cases e
  ·cases e
theorem Nw{E:XK}(b:Base F H)(ho:sl.own=false)(h:fC K (zX F H E) F H v sl):Rel K (zX F H E) F H ([v].map some) ([sl].map some) where
  mem:=aG.refl b
  len:=rfl
  at_:=fun i s e=>by
    cases i with
    |zero=>cases e;exact⟨v,rfl,h⟩
    |succ i=>simp at e
  apart:=fun i j si sj vi vj p pA ei ej oi oj hi hj=>by
    cases i with
    |zero=>cases ei;rw[ho] at oi;cases oi
    |succ i=>simp at ei
end
section
variable {X:Cx} {z:Zc} {pos px apos:Pos} {C0 f:Addr} {n:Nat} {ps:dC} {Fn:List Slot→eY} {x m:Str}
def SQ(C0:Addr)(i:Nat)(Fn:List Slot→eY):aY→eY:=fun η=>(UK C0 i η).bind fun sl=>Fn [sl]
theorem Fl{te:TE}{tE:TE}(De:(m==("words":Str))=false)(Fm:(m==("lying":Str))=false){Q:VK}{r:Slot}(rl:Rel X.K z F H σ η)(e:SQ C0 i Fn η=some r)(k:UC X.K F H r Q E0):Ik C0 m (spS X.K 1 Fn) [] E0 (jY i) zG σ H Q:=by
  unfold SQ at e;obtain⟨sl,h1,h2⟩:=cR.mp e;obtain⟨a,dx,l,p,ws,ao,a1,a2,rfl,ob,wv,b1,b2,b3⟩:=Ry rl h1;refine⟨_,a1,a,dx,_,rfl,a2,?_,?_⟩
  ·simp[List.lookup,De,Fm]
  ·exact⟨F,H,[.bb C0 ws ao],r,rfl,Nw rl.base rfl ⟨p,ob,wv,b1,b2,b3⟩,h2,k⟩
def Nx(C0:Addr)(i:Nat)(Fn:List Slot→eY):EF:=fun η=>(SQ C0 i Fn η).bind fun r=>match r with|.sh d=>some d|.rw d []=>some d|_=>none
theorem Pw(i:Nat)(cl:vW X.K C0)(hm:Meth X.K C0 m f)(hC:AF X.prog X.w X.K X.mg X.base n f ps (spS X.K 1 Fn))(hr:cU n X.A)(hN:X.N[i]?=some x:=by rfl)(hv:pL X.env.scope x:=by first|exact Or.inl rfl|exact Or.inr (Or.inl rfl)|exact Or.inr (Or.inr rfl))(De:(m==("words":Str))=false:=by decide)(Fm:(m==("lying":Str))=false:=by decide)(iE:(x==("__debug__":Str))=false:=by decide)(dR:(x==("__classdict__":Str))=false:=by decide)(ht:eval (.Call (.Attribute (.Name x px) m apos) [] [] pos) X.env=(do
      let ov ←eval (.Name x px) X.env
      standAt apos.atName
      let (f,first) ←holding [ov] (getMethod ov m pl)
      callWith pos f first (backTo pos (starEach [] X.env)) (backToKw pos (keywordEach [] X.env))):=by rfl):DE X z (.Call (.Attribute (.Name x px) m apos) [] [] pos) (Nx C0 i Fn):=by
  obtain⟨fd,G,hb,kp⟩:=hC.ex;refine PE.weak (zJ (pl:=pl) (cM hN hv iE dR) cl hm G hr hb .nil oX ht) fun σ H Q ⟨η,F,d,r,e,k⟩=>?_;unfold Nx at e;obtain⟨sl,h1,e⟩:=cR.mp e;refine Fl (te:=jY i) (tE:=jY i) De Fm r h1 ?_;split at e
  ·cases e;exact fun v H' F' g q=>k v H' F' g q
  ·cases e;exact fun v H' F' g q _=>k v H' F' g q
  ·cases e
def Px(C0:Addr)(i:Nat)(Fn:List Slot→eY):LF:=fun η=>(SQ C0 i Fn η).bind fun r=>match r with|.ol ds=>some ds|_=>none
theorem Py(i:Nat)(cl:vW X.K C0)(hm:Meth X.K C0 m f)(hC:AF X.prog X.w X.K X.mg X.base n f ps (spS X.K 1 Fn))(hr:cU n X.A)(hN:X.N[i]?=some x:=by rfl)(hv:pL X.env.scope x:=by first|exact Or.inl rfl|exact Or.inr (Or.inl rfl)|exact Or.inr (Or.inr rfl))(De:(m==("words":Str))=false:=by decide)(Fm:(m==("lying":Str))=false:=by decide)(iE:(x==("__debug__":Str))=false:=by decide)(dR:(x==("__classdict__":Str))=false:=by decide)(ht:eval (.Call (.Attribute (.Name x px) m apos) [] [] pos) X.env=(do
      let ov ←eval (.Name x px) X.env
      standAt apos.atName
      let (f,first) ←holding [ov] (getMethod ov m pl)
      callWith pos f first (backTo pos (starEach [] X.env)) (backToKw pos (keywordEach [] X.env))):=by rfl):DO X z (.Call (.Attribute (.Name x px) m apos) [] [] pos) (Px C0 i Fn):=by
  obtain⟨fd,G,hb,kp⟩:=hC.ex;refine PE.weak (zJ (pl:=pl) (cM hN hv iE dR) cl hm G hr hb .nil oX ht) fun σ H Q ⟨η,F,d,r,e,k⟩=>?_;unfold Px at e;obtain⟨sl,h1,e⟩:=cR.mp e;refine Fl (te:=jY i) (tE:=jY i) De Fm r h1 ?_;split at e
  ·cases e;exact fun p vs H' F' g a1 a2 a3 a4=>k p vs H' F' g a1 a2 a3 a4
  ·cases e
end
section
variable {K:PySem.W.Frag} {z:Zc} {F H F' H':Hp} {σ:St} {η:aY} {i:Nat} {p C:Addr} {ws:eZ} {ao iq:lY}
theorem Rel.without(r:Rel K z F H σ η)(i:Nat):Rel K z F H σ (η.set i none):=by
  have key:∀(k:Nat) sl,(η.set i none)[k]?=some (some sl)→η[k]?=some (some sl):=fun k sl e=>by
    by_cases h:k=i
    · subst h;by_cases hl:k<η.length
      ·rw[xD hl] at e;cases e
      ·rw[BE (by simpa using hl)] at e;cases e
    ·rwa[v5 (dq h)] at e
  exact⟨r.mem,by simp[r.len],fun k sl e=>r.at_ k sl (key k sl e),fun a b sa sb va vb q pC ea eb=>r.apart a b sa sb va vb q pC (key a sa ea) (key b sb eb)⟩
theorem Rel.Ny(r:Rel K z F H σ η)(h:η[i]?=some (some (.bx p C ws ao)))(g:aG F (cX H p) F' H'){zu:List (List Key×V)}(hF:F' p=none)(hH:H' p=some (.dT zu))(hd:bV K F' iq zu):Rel K z F' H' σ (η.set i (some (.bx p C ws iq))):=by
  obtain⟨v,a1,a2⟩:=r.at_ i _ h;obtain⟨p1,o,⟨rfl,bb⟩,h0,hF0,hH0,Pa,rfl,hd0⟩:=(bP (sl:=.bx _ _ _ _) rfl).mp a2;have dY:i<η.length:=(kJ.mp h).1;have r1:=(r.without i).hide (p:=p1) h0 hF0 fun j s w ej oj hj hq=>by
    have hji:j≠i:=fun e=>by subst e;rw[xD dY] at ej;cases ej
    rw[v5 (dq hji)] at ej;exact r.apart j i s _ w v p1 hji ej h oj rfl hj a1 hq ⟨rfl,bb⟩
  have r2:=r1.yd g i (p:=p1) (v:=v) (sl:=.bx p1 C ws iq) ((bP rfl).mpr ⟨p1,_,⟨rfl,bb.mono g.cz⟩,h0,hF,hH,zu,rfl,hd⟩) ⟨rfl,bb.mono g.cz⟩ bQ;have e1:σ.set i (some v)=σ:=by
    apply List.ext_getElem?;intro k;by_cases hk:k=i
    ·subst hk;rw[xD (by rw[r.len];exact dY),a1]
    ·rw[v5 (dq hk)]
  rw[e1,List.set_set] at r2;exact r2
def gf(ds:eZ):List Slot:=ds.map Slot.sh
theorem fO{E:XK}{H₀:Hp}:∀{ds:eZ} {vs:List V},bz K F ds vs→∀(j:Nat) s,((gf ds).map some)[j]?=some (some s)→s.own=false∧∃v,(vs.map some)[j]?=some (some v)∧fC K (zX F H₀ E) F H v s
  |[],vs,h,j,s,e=>by simp[gf] at e
  |d::ds,vs,h,j,s,e=>by
   obtain⟨v,r,rfl,h1,h2⟩:=av.mp h;cases j with
   |zero=>cases e;exact⟨rfl,v,rfl,h1⟩
   |succ j=>exact fO h2 j s (by simpa[gf] using e)
theorem Nz{E:XK}{wv:List (List Key×V)}(b:Base F H)(hF:F p=none)(hH:H p=some (.dT wv))(hb:ip K F v C ws p)(hd:bV K F ao wv)(ha:bz K F ds vs):Rel K (zX F (cX H p) E) F H ((v::vs).map some) ((.bx p C ws ao::gf ds).map some):=by
  have g0:aG F (cX H p) F H:=by have:=aG.own (dg b hF) bQ (.dT wv) (b.sR _ _ hH) rfl;rw[tY hH] at this;exact this
  refine⟨g0,by simp[gf,aJ ha],fun j s e=>?_,fun j k sj sk vj vk q Es ej ek oj ok hj hk h1 h2=>?_⟩
  · cases j with
    |zero=>cases e;exact⟨v,rfl,(bP (sl:=.bx _ _ _ _) rfl).mpr ⟨p,_,⟨rfl,hb⟩,bQ,hF,hH,wv,rfl,hd⟩⟩
    |succ j=>obtain⟨_,w,h1,h2⟩:=fO (E:=E) (H:=H) (H₀:=cX H p) ha j s (by simpa using e);exact⟨w,by simpa using h1,h2⟩
  · cases j with
    |zero =>
     cases k with
     |zero=>exact Es rfl
     |succ k=>obtain⟨o,_⟩:=fO (E:=E) (H:=H) (H₀:=cX H p) ha k sk (by simpa using ek);rw[o] at ok;cases ok
    |succ j=>obtain⟨o,_⟩:=fO (E:=E) (H:=H) (H₀:=cX H p) ha j sj (by simpa using ej);rw[o] at oj;cases oj
end
theorem Kp{K:PySem.W.Frag}{F H:Hp}:∀{ms:List Bool} {ds:eZ} {vs:List V},ms.all id=true→kP K F H ms ds vs→bz K F ds vs
  |[],[],[],_,_=>aO.mpr rfl
  |[],_::_,_,_,h=>h.elim
  |[],[],_::_,_,h=>h.elim
  |_::_,[],_,_,h=>h.elim
  |_::_,_::_,[],_,h=>h.elim
  |true::ms,d::ds,v::vs,hm,h=>av.mpr ⟨v,vs,rfl,h.1,Kp (by simpa using hm) h.2⟩
  |false::ms,d::ds,v::vs,hm,h=>by simp at hm
section
variable {X:Cx} {z:Zc} {pos pos' px apos:Pos} {C0 f:Addr} {n:Nat} {ps:dC} {Fn:List Slot→eY} {x m:Str} {e:Expr} {es:List Expr} {ms:List Bool} {fs:LF}
def lO(C0:Addr)(i:Nat)(own:List Nat)(fs:LF)(dv:eZ)(Fn:List Slot→eY):SF:=fun η=>match η[i]? with
  |some (some (.bx p C ws ao))=>if C=C0 then(fs η).bind fun ds=>match Fn (.bx p C ws ao::gf (ds++dv)) with
      |some (.rw d [(p',iq)])=>if p'=p then(AQ own (η.set i (some (.bx p C ws iq)))).map fun l=>.rt (.rw d l) else none
      |_=>none
    else none
  |_=>none
theorem Fo(i:Nat)(own:List Nat){dv:eZ}{dvs:List V}{dus:cv}{N:Nat}(cl:vW X.K C0)(hm:Meth X.K C0 m f)(G:cD X.prog X.w X.K X.mg X.base (CP X.prog X.w) n f fd ps (spS X.K N Fn))(hr:cU n X.A)(hb:Binds X.K fd ps dus)(hdu:Vals dvs dus)(SM:∀F,bz X.K F dv dvs)(nX:ms.all id=true)(hn:N=1+(ms.length+dv.length))(ha:DM X z (e::es) ms fs)(hN:X.N[i]?=some x:=by rfl)(hv:pL X.env.scope x:=by first|exact Or.inl rfl|exact Or.inr (Or.inl rfl)|exact Or.inr (Or.inr rfl))(De:(m==("words":Str))=false:=by decide)(Fm:(m==("lying":Str))=false:=by decide)(iE:(x==("__debug__":Str))=false:=by decide)(dR:(x==("__classdict__":Str))=false:=by decide)(BH:starEach (e::es) X.env=(false,eval e X.env)::starEach es X.env:=by rfl)(m8:(backTo pos (starEach es X.env)).any (·.1)=false:=by rfl)(ht:eval (.Call (.Attribute (.Name x px) m apos) (e::es) [] pos) X.env=(do
      let ov ←eval (.Name x px) X.env
      standAt apos.atName
      let (f,first) ←holding [ov] (getMethod ov m pl)
      callWith pos f first (backTo pos (starEach (e::es) X.env)) (backToKw pos (keywordEach [] X.env))):=by rfl):DS X z (.Return (some (.Call (.Attribute (.Name x px) m apos) (e::es) [] pos)) pos') (lO C0 i own fs dv Fn) :=
  PS.weak (mv (Mj (pl:=pl) (cM hN hv iE dR) cl hm G hr hb hdu oX ha BH m8 ht)) fun D σ H ⟨η,F,o,r,e,k⟩=>by
  unfold lO at e;split at e
  · rename_i p C ws ao h;by_cases hc:C=C0
    · rw[ay hc] at e;subst hc;obtain⟨ds,h1,e⟩:=cR.mp e;split at e
      · rename_i d p' iq h2;by_cases hp:p'=p
        · rw[ay hp] at e;subst hp;obtain⟨l,h3,rfl⟩:=iB.mp e;obtain⟨v,a1,a2⟩:=r.at_ i _ h;obtain⟨p1,o,⟨rfl,bb⟩,h0,hF,hH,wv,rfl,hd⟩:=(bP (sl:=.bx _ _ _ _) rfl).mp a2;obtain⟨a,dx,l0,NB,rfl,b1,b2,b3⟩:=id bb;refine⟨_,a1,a,dx,_,rfl,r.base.sub _ _ b1,by simp[List.lookup,De,Fm],η,F,ds,r,h1,fun vs H1 F1 g1 q1=>?_⟩;have r1:=r.grow g1;obtain⟨v',c1,c2⟩:=r1.at_ i _ h;rw[a1] at c1;cases c1;obtain⟨p2,o2,⟨e2,bb2⟩,h02,G8,G9,Rz,rfl,hd2⟩:=(bP (sl:=.bx _ _ _ _) rfl).mp c2;cases e2;have hA:bz X.K F1 (ds++dv) (vs++dvs):=jL (Kp nX q1) (SM F1);have hlen:=kQ q1;refine⟨F1,cX H1 _,_,_,?_,Nz g1.base G8 G9 bb2 hd2 hA,h2,fun v H' F' g q hq=>?_⟩
          ·rw[eT,lZ,←aJ (SM F1),hn];have:=aJ (Kp nX q1);omega
          ·obtain⟨_,y1,zu,y2,y3⟩:=hq _ eR;have r2:=r1.Ny h g y1 y2 y3;exact k v H' F' r2.mem q (qD r2 h3)
        ·rw[az hp] at e;cases e
      ·cases e
    ·rw[az hc] at e;cases e
  ·cases e
end
end DL
namespace L2
open PySem PySem.Spec PyProof.Rows PySem.W MB
section
variable {prog:Program} {w:World} {A:Around} {E:fR} {s:Shared}
theorem Kq{ok k v:Value}(hit:IsItemIter s.heap it d i n ep ok ov)(hQ:∀h',IsItemIterOut h' it d i n ep k v s.heap.objs.size→h'.get? s.heap.objs.size=some { cls:=.type "tuple",data:=.seq #[k,v] }→h'.objs.size=s.heap.objs.size+1→(∀b o,b≠it→s.heap.get? b=some o→h'.get? b=some o)→Q (.ref s.heap.objs.size) { s with heap:=h' }):wpAny (model prog w) A (Builtin.Dict_items.pairFromOwner (.ref it) 6 k v) Q E s:=by
  have hb:s.heap.objs.size≠it:=pK (bL hit);have i1:IsItemIter (s.heap.push { cls:=.type "tuple",data:=.seq #[k,v] }) it d i n ep ok ov:=eo _ hit;have t1:(s.heap.push { cls:=.type "tuple",data:=.seq #[k,v] }).get? s.heap.objs.size=some { cls:=.type "tuple",data:=.seq #[k,v] }:=cT _ rfl;refine aT (wpAny_newTuple (aT ?_));unfold Builtin.Dict_items.ownedTupleIsFree;refine aT (wpAny_field i1 rfl rfl (cu ?_));refine aT (wpAny_field i1 rfl rfl (aT (wpAny_field i1 rfl rfl (aT ?_))));refine ui i1 (by simp) fun h2 i2 s2=>aT (ui i2 (by simp) fun h3 i3 s3=>aT (ui i3 (by simp) fun h4 i4 s4=>aT (ui i4 (by simp) fun h5 i5 s5=>?_)));have kp:∀b o,b≠it→(s.heap.push { cls:=.type "tuple",data:=.seq #[k,v] }).get? b=some o→h5.get? b=some o:=fun b o n e=>s5.extBut b o n (s4.extBut b o n (s3.extBut b o n (s2.extBut b o n e)));refine aT (wpAny_letGo (cu (hQ h5 i5 (kp _ _ hb t1) ?_ fun b o n e=>kp b o n (eo _ e))));rw[s5.1,s4.1,s3.1,s2.1,kK]
theorem n6(d:Addr)(hd:(d==sysModules)=false):MeetsIn prog w (Builtin.«dict.items» ⟨[.ref d],[]⟩) (fun _ R s=>(∃es ep,fB s.heap d es ep)∧R (.ok (.ret (.ref s.heap.objs.size))) { s with heap:=s.heap.push { cls:=.type "dict_items",data:=.fields #[.ref d] } }) :=
  .of_wp fun A R s ⟨⟨es,ep,o,ho,hc,hq⟩,h⟩=>by
    unfold Builtin.«dict.items» Builtin.Dict.noArgs;refine aT (aT (wpAny_notOrdered_dict ⟨o,ho,hc.1⟩ ?_));have gR:wpAny (model prog w) A.in1 (Builtin.Dict.showsAll d) (fun _ s'=>s'=s) (fun e s'=>R (.error e) s') s:=by unfold Builtin.Dict.showsAll;rw[hd];exact cu rfl
    exact cu (aT (mq gR (fun _ _ e=>by subst e;exact aT (wpAny_newObj_type (cu ⟨_,rfl,h⟩))) fun _ _ h=>h))
theorem n8{v:Addr}(hv:s.heap.IsItemsView v d)(hm:fB s.heap d es ep)(hQ:Q (.ref s.heap.objs.size) { s with heap:=s.heap.push { cls:=.type "dict_itemiterator",data:=.fields #[.none,.bool false,.ref d,.int 0 0,.int es.size 0,.int ep 0,.none,.none] } }):wpAny (model prog w) A (pyIter (.ref v)) Q E s:=by
  have xR:=hv;have yb:=hm;obtain⟨ov,XM,hcv,SM⟩:=xR;obtain⟨o,ho,hc,Ko⟩:=yb;refine wpAny_pyIter_slot hv.typeIs F.slot_dict_items_iter (nL F.slot_dict_items_iter hv.typeIs F.entry_dict_items_iter ?_ (F.args_dict_items_iter_1 _))
  wp_walk using wpAny_field XM SM rfl,xF ho Ko,wpAny_dictEpoch ho Ko
  exact⟨_,rfl,_,_,⟨_,cT _ rfl,rfl⟩,F.slot_dict_itemiterator_next.lookup,by simpa[show Builtin.Dict_items.ownsTuple "dict_itemiterator"=true by decide,rawInt,Builtin.Dict_items.ownedTupleFields] using hQ⟩
theorem AR{f:Bool}{x ok:Value}{Q:fu→Shared→Prop}(hit:s.heap.get? it=some { cls:=.type "dict_itemiterator",dict:=none,data:=.fields #[x,.bool f,.ref d,.int i 0,.int es.size 0,.int ep 0,ok,ov],slots:=#[] })(hm:fB s.heap d es ep)(dY:i<es.size)(hP:∀h1,h1.get? it=some { cls:=.type "dict_itemiterator",dict:=none,data:=.fields #[x,.bool f,.ref d,.int (i+1:Nat) 0,.int es.size 0,.int ep 0,ok,ov],slots:=#[] }→Heap.SameBut it s.heap h1→∀E',wpAny (model prog w) A.in1 (Builtin.Dict_items.pairFromOwner (.ref it) 6 es[i].key es[i].val) (fun r s'=>Q (some r) s') E' { s with heap:=h1 }):wpAny (model prog w) A (pyNext (.ref it)) Q E s:=by
  have yb:=hm;obtain⟨od,z8,dR,z9⟩:=yb;have hT:Shared.TypeIs s (.ref it) "dict_itemiterator":=⟨_,hit,rfl⟩
  refine aT (wpAny_attempt (vZ hT F.slot_dict_itemiterator_next (nL F.slot_dict_itemiterator_next hT F.entry_dict_itemiterator_next ?_ (F.args_dict_itemiterator_next_1 _))));unfold Builtin.«dict_itemiterator.__next__»
  wp_walk using wpAny_typeNameOfWhole_itemiter hT,wpAny_fieldsOf hit rfl,xF z8 z9,wpAny_dictEpoch z8 z9
  rw[show(if (i:Int)<0 then none else es[(i:Int).toNat]?)=some es[i] by rw[az (by omega),rj,ug dY]];refine aT (aT (wpAny_typeNameOfWhole_itemiter hT (cu (aT (wpAny_isOneOf_itemiter hT (aT ?_))))));refine ui (k:=3) (x:=rawInt ((i:Int)+1)) hit (by simp) fun h1 i1 s1=>aT (pI ?_);have QL:Shared.TypeIs { s with heap:=h1 } (.ref it) "dict_itemiterator":=⟨_,i1,rfl⟩
  refine aT (wpAny_isOneOf_itemiter QL (aT (wpAny_isOneOf_itemiter QL ?_)));exact mq (hP h1 i1 s1 _) (fun r s' q=>cu ⟨_,rfl,cu q⟩) fun _ _ h=>h
theorem n9{ok:Value}{Q:fu→Shared→Prop}(hit:IsItemIter s.heap it d i es.size ep ok ov)(hm:fB s.heap d es ep)(dY:i<es.size)(hQ:∀h',IsItemIterOut h' it d (i+1) es.size ep es[i].key es[i].val s.heap.objs.size→h'.get? s.heap.objs.size=some { cls:=.type "tuple",data:=.seq #[es[i].key,es[i].val] }→h'.objs.size=s.heap.objs.size+1→(∀b o,b≠it→s.heap.get? b=some o→h'.get? b=some o)→Q (some (.ref s.heap.objs.size)) { s with heap:=h' }):wpAny (model prog w) A (pyNext (.ref it)) Q E s :=
  AR hit hm dY fun h1 j1 s1 E'=>Kq (s:={ s with heap:=h1 }) j1 fun h2 a1 a2 a3 a4=>by have z:h1.objs.size=s.heap.objs.size:=s1.1;dsimp only at a1 a2 a3 a4⊢;rw[z] at a1 a2 a3⊢;exact hQ h2 a1 a2 a3 fun b o n e=>a4 b o n (s1.extBut b o n e)
theorem yH{f:Bool}{x ok:Value}{Q:fu→Shared→Prop}(hh:A.handled=none)(hit:s.heap.get? it=some { cls:=.type "dict_itemiterator",dict:=none,data:=.fields #[x,.bool f,.ref d,.int i 0,.int es.size 0,.int ep 0,ok,ov],slots:=#[] })(hm:fB s.heap d es ep)(hx:es.size≤i)(hQ:∀h',Heap.ExtBut it s.heap h'→Q none { s with heap:=h' }):wpAny (model prog w) A (pyNext (.ref it)) Q E s:=by
  have yb:=hm;obtain⟨od,z8,dR,z9⟩:=yb;have hT:Shared.TypeIs s (.ref it) "dict_itemiterator":=⟨_,hit,rfl⟩
  refine aT (wpAny_attempt (vZ hT F.slot_dict_itemiterator_next (nL F.slot_dict_itemiterator_next hT F.entry_dict_itemiterator_next ?_ (F.args_dict_itemiterator_next_1 _))));unfold Builtin.«dict_itemiterator.__next__»
  wp_walk using wpAny_typeNameOfWhole_itemiter hT,wpAny_fieldsOf hit rfl,xF z8 z9,wpAny_dictEpoch z8 z9
  rw[show(if (i:Int)<0 then none else es[(i:Int).toNat]?)=none by rw[az (by omega),rj,BD hx]];refine aT (aT (wpAny_typeNameOfWhole_itemiter hT (cu (aT (ui (k:=2) (x:=.none) hit (by simp) fun h1 i1 s1=>?_)))))
  wp_walk
  unfold raiseNew;have Hz:A.in1.handled=none:=by simpa using hh
  refine aT (wpAny_handled ?_);rw[Hz];refine aT (cu (wpAny_throw ?_));refine aT (wpAny_isInstance ⟨_,cT _ rfl,rfl⟩ isSubtype_stop (cu (hQ _ fun b o n e=>?_)));exact eo _ (eo _ (s1.extBut b o n e))
theorem yI{ok:Value}{Q:fu→Shared→Prop}(hh:A.handled=none)(hit:IsItemIter s.heap it d i es.size ep ok ov)(hm:fB s.heap d es ep)(hx:es.size≤i)(hQ:∀h',Heap.ExtBut it s.heap h'→Q none { s with heap:=h' }):wpAny (model prog w) A (pyNext (.ref it)) Q E s:=yH hh hit hm hx hQ
end
end L2
namespace L2
open PySem PySem.Spec PyProof.Rows
def XQ(d:Addr)(o:Obj)(ao:List (List Key×V)):It :=
  ⟨fun i H=>H d=some (.gL o (.dT ao))∧i<ao.length,fun i H x H'=>∃T b k v,ao[i]?=some (k,v)∧H b=some (.tup (k.map kV))∧H T=none∧x=.ref T∧H'=upd H T (.tup [.ref b,v]),fun i H=>H d=some (.gL o (.dT ao))∧ao.length≤i⟩
theorem Df{K:PySem.W.Frag}{kk:Nat}{uk:Pos}(d it:Addr)(o:Obj)(ao:List (List Key×V))(es:Array DictEntry)(ep:Nat)(hx:o.ExactDict)(hd:o.data=.dict es ep)(hn:es.size=ao.length) :
    Turn P w K (.Tuple elts kk uk) (XQ d o ao) [it] it (fun i h=>∃ok ov,IsItemIter h it d i es.size ep ok ov) where
  mem:=by simp
  obj:=fun i h st b hb=>by
    have e:b=it:=by simpa using hb
    subst e;obtain⟨ok,ov,e⟩:=st;exact⟨_,e,fun v z=>by
      have z':Data.fields _=Data.cell v:=z;cases z'⟩
  keep:=fun i h h' st k=>by obtain⟨ok,ov,e⟩:=st;exact⟨ok,ov,k it (by simp) _ e⟩
  item:=by
    intro X hP hw hK hc i pins s σ H E I hf st hg;subst hP hw hK;obtain⟨hH,hi⟩:=hg;obtain⟨ok,ov,st⟩:=st;obtain⟨g1,z,y,xs,r,o',VA,VB,h1,h2,h3,h4,h5⟩:=(show bR X.prog X.w H s.heap d (.gL o (.dT ao)) from I.bU d _ hH)
    rw[g1] at h1;cases h1;rw[hd] at h3;injection h3 with e1 e2;subst e1 e2;obtain⟨f0,f1,f2,f3,f4,f5⟩:=hf it (by simp);refine n9 st ⟨o,g1,hx,hd⟩ (by omega) fun h' sM tp sz keep=>?_;have I1:Inv X pins σ H { s with heap:=h' }:=I.turned (t':=s.toks) (fun b o hb e=>keep b o hb e) f0 f1 f3 f4 f5;obtain⟨q,hq,hk⟩:=nc (i:=i) (x:=ao[i]) r (by simp[hi]);have yr:es[i]'(by omega)=entryOfKey (tupleKind (cI X.prog X.w)) q:=by
      have e3:es.toList[i]?=some (entryOfKey (tupleKind (cI X.prog X.w)) q):=by rw[h4,eS,hq];rfl
      rw[v3,ug (by omega)] at e3;exact jG e3
    have fr:H s.heap.objs.size=none:=I.bU.fresh (bG _);have Ed:q.2.1≠s.heap.objs.size:=fun e=>by rw[←e,hk.2.1] at fr;cases fr
    have I2:Inv X pins σ (upd H s.heap.objs.size (.tup [.ref q.2.1,ao[i].2])) { s with heap:=h' }:=by refine I1.adopt (I.tm (bG _) fr) I.sz ⟨by show 2≤sizeLine;decide,[.ref q.2.1,q.2.2],.cons rfl (.cons hk.2.2 .nil),?_⟩;rw[yr] at tp;exact⟨_,tp,rfl,_,rfl⟩
    have ne:it≠s.heap.objs.size:=dw (bL st);refine⟨_,rfl,wpAny_letOwnedTupleGo_items (s:={ s with heap:=h' }) sM fun Sv XR sb=>?_⟩;have I3:Inv X pins σ (upd H s.heap.objs.size (.tup [.ref q.2.1,ao[i].2])) { s with heap:=Sv }:=I2.turned (t':=s.toks) (fun b o hb e=>(sb.2 b hb).trans e) (by rw[ai ne];exact f0) f1 f3 f4 f5;refine⟨.ref s.heap.objs.size,_,I3,rfl,⟨s.heap.objs.size,q.2.1,ao[i].1,ao[i].2,by simp[hi],hk.2.1,fr,rfl,rfl⟩,⟨_,_,XR⟩,fun b hb=>?_⟩;have e:b=it:=by simpa using hb
    subst e;rw[ai ne];exact f0
  done:=by
    intro X hP hw hK hc i pins s σ H E I hf st hg;subst hP hw hK;obtain⟨hH,hi⟩:=hg;obtain⟨ok,ov,st⟩:=st;obtain⟨g1,_⟩:=(show bR X.prog X.w H s.heap d (.gL o (.dT ao)) from I.bU d _ hH)
    obtain⟨f0,f1,f2,f3,f4,f5⟩:=hf it (by simp);exact yI (I.ok.hd hc) st ⟨o,g1,hx,hd⟩ (by omega) fun h' eb=>⟨rfl,I.turned (t':=s.toks) (fun b o hb e=>eb b o hb e) f0 f1 f3 f4 f5⟩
  self:=fun A i s Q E st h=>by obtain⟨ok,ov,st⟩:=st;exact PySem.W.kcp_self st h
section
variable {X:Cx} {e:Expr} {tE:TE} {elts:List Expr} {kk:Nat} {uk apos aX:Pos}
def RA(tE:TE):TI:=fun σ H R=>tE σ H fun x H1=>∃d o ao,x=.ref d∧H1 d=some (.gL o (.dT ao))∧R (XQ d o ao) H1
theorem Kr(he:PE X e tE)(cG:attributeBase e "items" X.env (eval e X.env)=eval e X.env:=by rfl)(hline:(apos.endLine==aX.line)=true:=by rfl):PI X (.Tuple elts kk uk) (.Call (.Attribute e "items" apos) [] [] aX) (RA tE):=by
  intro pins s σ H R I h;refine wpAny_Call_method0_late cG hline (cQ (he pins s σ H _ I h) fun v s1 ⟨x,H1,I1,r1,q1⟩=>?_);obtain⟨d,o,ao,rfl,hH,q⟩:=q1;cases r1;obtain⟨g1,hz,Dc,xs,hp,o',es,ep,ho,hex,hd,yr,J0⟩:=(show bR X.prog X.w H1 s1.heap d (.gL o (.dT ao)) from I1.bU d _ hH)
  rw[g1] at ho;cases ho;have h1:s1.TypeIs (.ref d) "dict":=⟨o,g1,hex.1⟩
  have h2:∀a,Value.ref d=.ref a→∃ob,s1.heap.get? a=some ob∧ob.dict=none:=fun a e=>by cases e;exact⟨o,g1,hex.2.1⟩
  refine⟨"dict","dict.items",PySem.F.plainAttrs_dict,PySem.F.slot_dict_items,PySem.F.type_dict_items,h1,h2,Calls.callWith_builtin rfl (PySem.evalArgs_none ?_)⟩;have hr:fB s1.heap d es ep:=⟨o,g1,hex,hd⟩
  refine call_meetsIn PySem.F.slot_dict_items h1 PySem.F.entry_dict_items (PySem.F.args_dict_items_1 _) (n6 d Dc) ⟨⟨es,ep,hr⟩,?_⟩;have hn:es.size=ao.length:=by rw[←jc,yr,fG,←pJ hp]
  have I2:Inv X pins σ H1 { s1 with heap:=s1.heap.push { cls:=.type "dict_items",data:=.fields #[.ref d] } }:=I1.kept (t':=s1.toks) fun b o e=>eo _ e;refine n8 (s:={ s1 with heap:=s1.heap.push { cls:=.type "dict_items",data:=.fields #[.ref d] } }) (v:=s1.heap.objs.size) (d:=d) (es:=es) (ep:=ep) ⟨_,cT _ rfl,rfl,rfl⟩ (hr.at fun o e=>eo _ e) ?_;refine⟨_,[_],_,_,H1,rfl,I2.kept (t':=s1.toks) fun b o e=>eo _ e,Df d _ o ao es ep hex hd hn,⟨.none,.none,cT _ rfl⟩,fun b hb=>?_,q⟩;rw[List.mem_singleton.mp hb];exact I2.tm (bG _) (I2.bU.fresh (bG _))
end
end L2
namespace DL
open PySem PySem.Spec L2
open PyProof.Rows hiding St pairAt
structure FzE (X:Cx) (z:Zc) (e:Expr) (sel:aY→Option lY):Prop where
  ex:∃tE,PE X e tE∧∀σ H η F ao,Rel X.K z F H σ η→sel η=some ao→∃p o ws,z.H₀ p=some (.gL o (.dT ws))∧bV X.K z.H₀ ao ws∧∀H' Q,bH z.H₀ H'→Q (.ref p) H'→tE σ H' Q
def V9(C0:Addr)(i:Nat)(η:aY):Option lY:=match η[i]? with
  |some (some (.bb C _ ao))=>if C=C0 then some ao else none
  |_=>none
section
variable {X:Cx} {z:Zc} {e:Expr} {p apos aX pos:Pos} {sel:aY→Option lY}
theorem UL(i:Nat){C0:Addr}(cl:vW X.K C0)(na:iD X.K C0 "lying")(hN:X.N[i]?=some x:=by rfl)(hv:pL X.env.scope x:=by first|exact Or.inl rfl|exact Or.inr (Or.inl rfl)|exact Or.inr (Or.inr rfl))(iE:(x==("__debug__":Str))=false:=by decide)(dR:(x==("__classdict__":Str))=false:=by decide)(hb:attributeBase (.Name x px) "lying" X.env (eval (.Name x px) X.env)=eval (.Name x px) X.env:=by rfl):FzE X z (.Attribute (.Name x px) "lying" apos) (V9 C0 i):=⟨_,xS (cM hN hv iE dR) hb,fun σ H η F ao r e=>by
  unfold V9 at e;split at e
  · rename_i C Pa iq h;by_cases hc:C=C0
    ·rw[ay hc] at e;cases e;subst hc;obtain⟨v,a1,p1,ob,wv,⟨a,dx,l,vs,rfl,b1,b2,b3⟩,hH,hd⟩:=r.at_ i _ h;exact⟨p1,ob,wv,hH,hd,fun H' Q s q=>⟨_,a1,a,C,dx,_,_,rfl,s _ _ b1,cl,na,rfl,q⟩⟩
    ·rw[az hc] at e;cases e
  ·cases e⟩
def kb(ao:lY):eZ:=ao.map fun kv=>.tup [.tup (kv.1.map Q5),kv.2]
theorem Dg{K:PySem.W.Frag}{o:Obj}{ws:List (List Key×V)}{ao:lY}(hH:z.H₀ d=some (.gL o (.dT ws)))(hd:bV K z.H₀ ao ws)(hi:(ao.all fun kv=>kv.2.nP)=true)(hl:ao.length≤sizeLine):Walk K z F (XQ d o ws) true (kb ao) where
  go:=fun F' H' s g i hi=>by refine⟨g.ent _ _ hH,?_⟩;rw[←ja hd];simpa[kb] using hi
  BI:=fun F' H' s g i dd x Bv e y=>by obtain⟨T,b,k,v,h1,h2,h3,rfl,rfl⟩:=y;unfold kb at e;rw[eS] at e;obtain⟨kv,e1,rfl⟩:=iB.mp e;obtain⟨y,e2,e3,e4⟩:=nc hd e1;rw[h1] at e2;cases e2;have hm:kv.2.nP=true:=eU.mp hi kv (zx e1);have f2:F' b=some (.tup (k.map kV)):=g.base.tup _ _ h2 rfl;have fv:Den K F' kv.2 v:=ng (fun a o=>g.base.tup a o) _ _ hm (aL g.ent _ _ e4);have g2:=aG.put g.base h3 (.tup [.ref b,v]) (show([V.ref b,v]:List V).length≤sizeLine by rw[ig];simp);refine⟨_,g2,aI.mpr ⟨T,_,rfl,ax,av.mpr ⟨_,_,rfl,?_,il (aL g2.cz _ _ fv)⟩⟩⟩;rw[e3];exact aI.mpr ⟨b,_,rfl,g2.cz _ _ f2,qm _⟩
  stop:=fun F' H' s g=>by refine⟨g.ent _ _ hH,?_⟩;rw[←ja hd];simp[kb]
  len:=by simpa[kb] using hl
def yJ(sel:aY→Option lY):LF:=fun η=>(sel η).bind fun ao=>if (ao.all fun kv=>kv.2.nP)=true∧ao.length≤1000 then some (kb ao) else none
theorem Ks{kk:Nat}{uk:Pos}(R:FzE X z e sel)(cG:attributeBase e "items" X.env (eval e X.env)=eval e X.env:=by rfl)(hline:(apos.endLine==aX.line)=true:=by rfl):DI X z (.Tuple elts kk uk) (.Call (.Attribute e "items" apos) [] [] aX) true (yJ sel):=by
  obtain⟨tE,pe,at_⟩:=R.ex;refine PI.weak (Kr pe cG hline) fun σ H R ⟨η,F,ds,r,e,k⟩=>?_;unfold yJ at e;obtain⟨ao,h1,e⟩:=cR.mp e;by_cases hc:(ao.all fun kv=>kv.2.nP)=true∧ao.length≤1000
  ·rw[ay hc] at e;cases e;obtain⟨q,o,ws,a1,a2,a3⟩:=at_ σ H η F ao r h1;exact a3 H _ r.mem.ent ⟨q,o,ws,rfl,r.mem.ent _ _ a1,k _ H F (aG.refl r.base) (Dg a1 a2 hc.1 (ml (eF hc.2)))⟩
  ·rw[az hc] at e;cases e
end
end DL
namespace L2
open PySem PySem.Spec PyProof.Rows PySem.W MB
section
variable {prog:Program} {w:World} {A:Around} {E:fR} {s:Shared}
theorem Ha{f:Bool}{oa:Obj}{ok k v:Value}(hit:KdxIt s.heap it d i n ep ok ov a f)(ha:s.heap.get? a=some oa)(hQ:∀h',KdxIt h' it d i n ep ok ov a true→h'.get? s.heap.objs.size=some { cls:=.type "tuple",data:=.seq #[k,v] }→h'.objs.size=s.heap.objs.size+1→(∀b o,b≠it→s.heap.get? b=some o→h'.get? b=some o)→Q (.ref s.heap.objs.size) { s with heap:=h' }):wpAny (model prog w) A (Builtin.Dict_items.pairFromOwner (.ref it) 6 k v) Q E s:=by
  have hb:s.heap.objs.size≠it:=pK (bL hit);have i1:KdxIt (s.heap.push { cls:=.type "tuple",data:=.seq #[k,v] }) it d i n ep ok ov a f:=eo _ hit;have t1:(s.heap.push { cls:=.type "tuple",data:=.seq #[k,v] }).get? s.heap.objs.size=some { cls:=.type "tuple",data:=.seq #[k,v] }:=cT _ rfl;refine aT (wpAny_newTuple (aT ?_));unfold Builtin.Dict_items.ownedTupleIsFree;refine aT (wpAny_field i1 rfl (x:=rawInt a) rfl (aT ?_));have al:wpAny (model prog w) A (loadIfAlive a) (fun r s'=>r=some oa∧s'={ s with heap:=s.heap.push { cls:=.type "tuple",data:=.seq #[k,v] } }) E { s with heap:=s.heap.push { cls:=.type "tuple",data:=.seq #[k,v] } }:=kdx_alive (eo _ ha) ⟨rfl,rfl⟩;refine mq al (fun r s' ⟨e1,e2⟩=>?_) fun _ _ h=>h;subst e1 e2;cases f with
  |true=>exact aT (wpAny_field i1 rfl rfl (cu (cu (hQ _ i1 t1 (kK _ _) fun b o _ e=>eo _ e))))
  |false=>refine aT (wpAny_field i1 rfl rfl (aT (ui i1 (by simp) fun h2 i2 s2=>cu (cu (hQ h2 i2 (s2.extBut _ _ hb t1) ?_ fun b o n e=>s2.extBut b o n (eo _ e))))));rw[s2.1,kK]
end
abbrev LstAt(h:Heap)(S:Addr)(vs:cv):Prop:=∃acc c,h.get? S=some { cls:=.type "list",dict:=none,data:=.seq acc c,slots:=#[] }∧acc.toList=vs
structure Gives (prog:Program) (w:World) (A:Around) (I S:Addr) (n:Nat) (s:Shared) (J:Nat→Heap→cv→Prop) (Z:Heap→cv→Prop):Prop where
  item:∀i h tk vs (Q:fu→Shared→Prop) (E:fR),i<n→J i h vs→(∃o,h.get? S=some o)→(∀h' v,(∀o,h.get? S=some o→h'.get? S=some o)→(∀f:Obj→Obj,J (i+1) (h'.update S f) (vs++[v]))→Q (some v) { s with heap:=h',toks:=tk })→wpAny (model prog w) A.in1 (pyNext (.ref I)) Q E { s with heap:=h,toks:=tk }
  done:∀h tk vs (Q:fu→Shared→Prop) (E:fR),J n h vs→(∃o,h.get? S=some o)→(∀h',(∀o,h.get? S=some o→h'.get? S=some o)→Z h' vs→Q none { s with heap:=h',toks:=tk })→wpAny (model prog w) A.in1 (pyNext (.ref I)) Q E { s with heap:=h,toks:=tk }
  len:∀i h vs,J i h vs→vs.length=i
section
variable {prog:Program} {w:World} {A:Around} {s:Shared} {R:Result→Shared→Prop} {I S:Addr} {n:Nat} {J:Nat→Heap→cv→Prop} {Z:Heap→cv→Prop}
theorem gather(G:Gives prog w A I S n s J Z)(hn:n≤sizeLine)(res:Value)(hR:∀h tk vs,Z h vs→LstAt h S vs→R (.ok (.ret res)) { s with heap:=h,toks:=tk }):∀(k i:Nat),n-i=k→i≤n→∀(h:Heap) (tk:Nat) (vs:cv),J i h vs→LstAt h S vs→codeAny (model prog w) A (.builtin "list.extend.loop" ⟨[.ref S,.ref I,res],[]⟩) R { s with heap:=h,toks:=tk }
  |0,i,hk,hi,h,tk,vs,j,⟨acc,c,hS,ha⟩=>by
   have e:i=n:=by omega
   subst e;refine codeAny_builtin PySem.F.entry_extend_loop ?_;rw[Around.under_plainId PySem.F.plain_extend_loop _];exact aT (G.done h tk vs _ _ j ⟨_,hS⟩ fun h' k' j'=>cu (hR h' tk vs j' ⟨acc,c,k' _ hS,ha⟩))
  |k+1,i,hk,hi,h,tk,vs,j,⟨acc,c,hS,ha⟩=>by
   have dY:i<n:=by omega
   have hz:acc.size=i:=by rw[←jc,ha];exact G.len i h vs j
   refine codeAny_builtin PySem.F.entry_extend_loop ?_;rw[Around.under_plainId PySem.F.plain_extend_loop _];refine aT (G.item i h tk vs _ _ dY j ⟨_,hS⟩ fun h' v k' j'=>aT ?_);have up:=sX (Obj.mapSeq (·.push v)) (k' _ hS) rfl;refine wpAny_updateSeq (k' _ hS) rfl (cu ⟨plainId_quiet PySem.F.plain_extend_loop _,?_⟩) (by rw[hz];omega) (by show(acc.push v).size≤sizeLine+1;rw[Array.size_push,hz];omega);exact gather G hn res hR k (i+1) (by omega) dY _ tk (vs++[v]) (j' _) ⟨_,_,up,by rw[Array.toList_push,ha]⟩
end
section
variable {prog:Program} {w:World} {A:Around} {E:fR} {s:Shared}
theorem tX{S:Addr}{Q:fu→Shared→Prop}(st:KdxSt s.heap it d S i es.size ep)(hS:S<s.heap.objs.size)(hm:fB s.heap d es ep)(hi:i<es.size)(hQ:∀h',KdxSt h' it d S (i+1) es.size ep→h'.get? s.heap.objs.size=some { cls:=.type "tuple",data:=.seq #[es[i].key,es[i].val] }→h'.objs.size=s.heap.objs.size+1→(∀b o,b≠it→s.heap.get? b=some o→h'.get? b=some o)→Q (some (.ref s.heap.objs.size)) { s with heap:=h' }):wpAny (model prog w) A (pyNext (.ref it)) Q E s:=by
  rcases st with⟨rfl,ok,ov,q⟩|⟨ok,ov,a,f,oa,q1,q2,q3,q4⟩
  ·exact n9 q hm hi fun h' c1 c2 c3 c4=>hQ h' (.inr ⟨_,_,_,false,_,c1,c2,pK (bL q),pK hS⟩) c2 c3 c4
  ·refine AR q1 hm hi fun h1 j1 s1 E'=>Ha (s:={ s with heap:=h1 }) j1 (s1.extBut a oa q3 q2) fun h2 c1 c2 c3 c4=>?_;have z:h1.objs.size=s.heap.objs.size:=s1.1;dsimp only at c1 c2 c3 c4⊢;rw[z] at c2 c3⊢;have kp:∀b o,b≠it→s.heap.get? b=some o→h2.get? b=some o:=fun b o n e=>c4 b o n (s1.extBut b o n e);exact hQ h2 (.inr ⟨ok,ov,a,true,oa,c1,kp a oa q3 q2,q3,q4⟩) c2 c3 kp
theorem RB{S:Addr}{Q:fu→Shared→Prop}(hh:A.handled=none)(st:KdxSt s.heap it d S i es.size ep)(hm:fB s.heap d es ep)(hi:es.size≤i)(hQ:∀h',Heap.ExtBut it s.heap h'→Q none { s with heap:=h' }):wpAny (model prog w) A (pyNext (.ref it)) Q E s:=by
  rcases st with⟨rfl,ok,ov,q⟩|⟨ok,ov,a,f,oa,q1,_,_,_⟩
  ·exact yH hh q hm hi hQ
  ·exact yH hh q1 hm hi hQ
end
structure Kt (es:Array DictEntry) (lo:Addr) (h:Heap) (as:List Addr):Prop where
  rise:as.Pairwise (·<·)
  above:∀a∈as,lo<a
  pairs:∀(j:Nat) (a:Addr),as[j]?=some a→∃e,es[j]?=some e∧h.get? a=some { cls:=.type "tuple",data:=.seq #[e.key,e.val] }
theorem Kt.there{lo:Addr}{as:List Addr}(g:Kt es lo h as)(ha:a∈as):a<h.objs.size:=by obtain⟨j,hj⟩:=List.mem_iff_getElem?.mp ha;obtain⟨_,_,e⟩:=g.pairs j a hj;exact bL e
theorem Kt.move{lo:Addr}{as:List Addr}(g:Kt es lo h as)(k:∀b o,lo<b→h.get? b=some o→h'.get? b=some o):Kt es lo h' as :=
  ⟨g.rise,g.above,fun j a hj=>let ⟨e,e1,e2⟩:=g.pairs j a hj;⟨e,e1,k a _ (g.above a (zx hj)) e2⟩⟩
theorem Kt.more{lo t:Addr}{as:List Addr}(g:Kt es lo h as)(dY:as.length<es.size)(ha:∀a∈as,a<t)(hl:lo<t)(ht:h.get? t=some { cls:=.type "tuple",data:=.seq #[es[as.length].key,es[as.length].val] }):Kt es lo h (as++[t]):=by
  refine⟨List.pairwise_append.mpr ⟨g.rise,List.pairwise_singleton _ _,fun a h1 b h2=>?_⟩,fun a h1=>?_,fun j b hj=>?_⟩
  ·rw[List.mem_singleton.mp h2];exact ha a h1
  · rcases md.mp h1 with h1|h1
    ·exact g.above a h1
    ·rw[List.mem_singleton.mp h1];exact hl
  · by_cases h1:j<as.length
    ·rw[xC h1] at hj;exact g.pairs j b hj
    · rw[xB (by omega)] at hj;have e0:j-as.length=0:=by
        have:=(kJ.mp hj).1;simp at this;omega
      rw[e0] at hj;cases hj;have e1:j=as.length:=by omega
      subst e1;exact⟨_,ug dY,ht⟩
section
variable {prog:Program} {w:World} {A:Around} {E:fR} {s:Shared} {r d:Addr} {es:Array DictEntry} {ep:Nat}
structure ItZ (es:Array DictEntry) (h₁:Heap) (I S:Addr) (h:Heap) (vs:cv):Prop where
  keep:∀b o,b≠S→b≠I→h₁.get? b=some o→h.get? b=some o
  as:∃as:List Addr,vs=as.map Value.ref∧as.length=es.size∧Kt es I h as
structure ItJ (es:Array DictEntry) (ep:Nat) (h₁:Heap) (I S d:Addr) (i:Nat) (h:Heap) (vs:cv):Prop where
  st:KdxSt h I d S i es.size ep
  raw:fB h d es ep
  keep:∀b o,b≠S→b≠I→h₁.get? b=some o→h.get? b=some o
  as:∃as:List Addr,vs=as.map Value.ref∧as.length=i∧Kt es I h as
  lt:I<h.objs.size
theorem Dh{h₁:Heap}{I S:Addr}(hh:A.handled=none)(CB:S<I)(Wa:d≠S)(hId:d≠I):Gives prog w A I S es.size s (ItJ es ep h₁ I S d) (ItZ es h₁ I S) where
  len:=fun i h vs j=>by obtain⟨as,rfl,e,_⟩:=j.as;rw[fG];exact e
  done:=fun h tk vs Q E j ⟨o,hS⟩ hQ=>by refine RB (s:={ s with heap:=h,toks:=tk }) (A:=A.in1) (by simpa using hh) j.st j.raw (bG _) fun h' x=>hQ h' (fun o e=>x S o (dw CB) e) ⟨fun b o n1 n2 e=>x b o n2 (j.keep b o n1 n2 e),?_⟩;obtain⟨as,e1,e2,g⟩:=j.as;exact⟨as,e1,e2,g.move fun b o lb e=>x b o (pK lb) e⟩
  item:=fun i h tk vs Q E hi j ⟨o,hS⟩ hQ=>by
    refine tX (s:={ s with heap:=h,toks:=tk }) (S:=S) j.st (bL hS) j.raw hi fun h' sM ht hz kp=>hQ h' _ (fun o e=>kp S o (dw CB) e) fun f=>?_;dsimp only at ht hz kp;have up:∀b o,b≠S→h'.get? b=some o→(h'.update S f).get? b=some o:=fun b o n e=>(Heap.get?_update_other _ _ (dq n)).trans e;obtain⟨as,rfl,e,g⟩:=j.as;have hSh:S<h.objs.size:=bL hS;refine⟨sM.keep up (pK CB),j.raw.at fun o e=>up d o Wa (kp d o hId e),fun b o n1 n2 e=>up b o n1 (kp b o n2 (j.keep b o n1 n2 e)),⟨as++[h.objs.size],by rw[wa];rfl,by rw[lZ,e];rfl,?_⟩,?_⟩
    ·subst e;exact(g.move fun b o lb eb=>up b o (pK (Nat.lt_trans CB lb)) (kp b o (pK lb) eb)).more hi (fun a ha=>g.there ha) j.lt (up _ _ (pK hSh) ht)
    ·rw[Heap.size_after_update,hz];exact Nat.lt_succ_of_lt j.lt
theorem yK{R:Result→Shared→Prop}(hh:A.handled=none)(hv:s.heap.IsItemsView r d)(hm:fB s.heap d es ep){S:Addr}(hSr:S≠r)(Wa:d≠S)(res:Value){c₀:Nat}(hS:s.heap.get? S=some { cls:=.type "list",data:=.seq #[] c₀ })(hn:es.size≤sizeLine)(hR:∀h' tk vs,ItZ es s.heap s.heap.objs.size S h' vs→LstAt h' S vs→R (.ok (.ret res)) { s with heap:=h',toks:=tk }) :
    wpAny (model prog w) A.in1 (Builtin.List.listExtendWith (.ref S) (.ref r) res)
      (fun fin s'=>match fin with|.done f=>R (.ok f) s'|.again c'=>c'.quiet=true∧codeAny (model prog w) A c' R s') (fun e s'=>R (.error e) s') s:=by
  have CB:S<s.heap.objs.size:=bL hS;have hdI:d<s.heap.objs.size:=hm.lt;have go:∀(h:Heap) (c₁ tk:Nat),(∀b o,b≠S→(s.heap.push { cls:=.type "dict_itemiterator",data:=.fields #[.none,.bool false,.ref d,.int 0 0,.int es.size 0,.int ep 0,.none,.none] }).get? b=some o→h.get? b=some o) →
      h.get? S=some { cls:=.type "list",data:=.seq #[] c₁ }→codeAny (model prog w) A (.builtin "list.extend.loop" ⟨[.ref S,.ref s.heap.objs.size,res],[]⟩) R { s with heap:=h,toks:=tk }:=fun h c₁ tk kp UM=>by
    have hI:=kp _ _ (pK CB) (cT _ rfl);exact gather (Dh (es:=es) (ep:=ep) (h₁:=s.heap) hh CB Wa (dw hdI)) hn res hR es.size 0 (Nat.sub_zero _) (iC _) h tk []
      ⟨.inl ⟨rfl,.none,.none,hI⟩,hm.at fun o e=>kp d o Wa (eo _ e),fun b o n _ e=>kp b o n (eo _ e),⟨[],rfl,rfl,List.Pairwise.nil,(fun _ h=>nomatch h),(fun j a h=>by simp at h)⟩,bL hI⟩ ⟨_,_,UM,rfl⟩
  have c1:Builtin.List.listSameRef (.ref S) (.ref r)=false:=by simp[Builtin.List.listSameRef,hSr]
  have c2:((Value.type "dict_items"==Value.type "list")||(Value.type "dict_items"==Value.type "tuple"))=false:=by decide
  have UM:=eo { cls:=.type "dict_itemiterator",data:=.fields #[.none,.bool false,.ref d,.int 0 0,.int es.size 0,.int ep 0,.none,.none] } hS;unfold Builtin.List.listExtendWith;refine aT (wpAny_typeOf hv.typeIs ?_);simp only[c1,c2,Bool.or_false,Bool.false_or,uh,jJ];refine aT (n8 hv hm (aT (pI (kdx_hint (let ⟨o,ho,hc,_⟩:=hv;⟨o,eo _ ho,hc⟩) ?_))));refine wpAny_ite_split (fun _=>aT (wpAny_rule (aT ?_))) (fun _=>cu ⟨plainId_quiet PySem.F.plain_extend_loop _,go _ c₀ _ (fun _ _ _ e=>e) UM⟩);have UN:=sX (Obj.mapSeq (·.push Value.none)) UM rfl;refine aT (wpAny_updateSeq UM rfl (wpAny_updateSeq (hz:=by seq_fits) UN rfl (cu ⟨plainId_quiet PySem.F.plain_extend_loop _,go _ _ _ (fun b o n e=>?_) (sX (Obj.mapSeq (·.pop)) UN rfl)⟩)));rw[Heap.get?_update_other _ _ (dq n),Heap.get?_update_other _ _ (dq n)];exact e
theorem NC(hh:A.handled=none)(hv:s.heap.IsItemsView r d)(hm:fB s.heap d es ep)(hn:es.size≤sizeLine)(hQ:∀h' tk acc c as,(∀b o,s.heap.get? b=some o→h'.get? b=some o)→h'.get? s.heap.objs.size=some { cls:=.type "list",dict:=none,data:=.seq acc c,slots:=#[] }→as.length=es.size→Kt es s.heap.objs.size h' as→acc.toList=as.map Value.ref→Q (.ref s.heap.objs.size) { s with heap:=h',toks:=tk }):wpAny (model prog w) A (call (.type "list") [.ref r]) Q E s:=by
  have hS:(s.heap.push { cls:=.type "list",data:=.seq #[] }).get? s.heap.objs.size=some { cls:=.type "list",data:=.seq #[] }:=cT _ rfl;have hr:s.heap.objs.size≠r:=let ⟨_,ho,_⟩:=hv;pK (bL ho)
  have hd:d≠s.heap.objs.size:=dw hm.lt;refine callType_codes (Q₁:=fun obj s₁=>obj=.ref s.heap.objs.size∧s₁={ s with heap:=s.heap.push { cls:=.type "list",data:=.seq #[] } }) PySem.F.called_list (PySem.F.typeCall_list_1 _) PySem.F.entry_list_init (code_list_new _ ⟨rfl,rfl⟩) fun obj s₁ ⟨e1,e2⟩=>?_;subst e1 e2;refine⟨⟨_,hS,rfl⟩,PySem.F.args_list_init_2 _ _,aT (aT (wpAny_seqItems hS rfl (cu (aT (wpAny_updateSeq hS rfl (aT (wpAny_letGo ?_)))))))⟩;have kp:∀b o,b≠s.heap.objs.size→s.heap.get? b=some o→((s.heap.push { cls:=.type "list",data:=.seq #[] }).update s.heap.objs.size (Obj.mapSeq (fun _=>(#[]:Array Value)))).get? b=some o:=fun b o n e=>(Heap.get?_update_other _ _ (dq n)).trans (eo _ e);have UN:=sX (Obj.mapSeq (fun _=>(#[]:Array Value))) hS rfl;have hsz:s.heap.objs.size<((s.heap.push { cls:=.type "list",data:=.seq #[] }).update s.heap.objs.size (Obj.mapSeq (fun _=>(#[]:Array Value)))).objs.size:=bL UN;refine yK (A:=A.in1) (by simpa using hh) (let ⟨o,ho,x⟩:=hv;⟨o,kp r o (dq hr) ho,x⟩) (hm.at fun o e=>kp d o hd e) hr hd .none UN hn fun h' tk vs z ⟨acc,c,hl,ha⟩=>⟨rfl,?_⟩
  obtain⟨as,e1,e2,g⟩:=z.as;refine hQ h' tk acc c as (fun b o e=>?_) hl e2 ⟨g.rise,fun a h=>Nat.lt_trans hsz (g.above a h),g.pairs⟩ (ha.trans e1);have hb:b≠s.heap.objs.size:=dw (bL e);exact z.keep b o hb (dw (bL (kp b o hb e))) (kp b o hb e)
end
inductive Puts:Hp→List (Addr×List V)→Hp→Prop
  |nil {H:Hp}:Puts H [] H
  |cons {H H':Hp} {a:Addr} {xs:List V} {r:List (Addr×List V)} (h:H a=none) (hl:xs.length≤sizeLine) (t:Puts (upd H a (.tup xs)) r H'):Puts H ((a,xs)::r) H'
section
variable {X:Cx} {pins:gu} {σ:St} {s0 s':Shared} {H0:Hp}
theorem Inv.UO(I0:Inv X pins σ H0 s0):∀(qs:List (Addr×List V)) (H:Hp),Inv X pins σ H s'→(∀q∈qs,s0.heap.objs.size≤q.1∧H q.1=none∧q.2.length≤sizeLine∧∃its:cv,Vals q.2 its∧IsTup s'.heap q.1 its.toArray)→(qs.map (·.1)).Nodup→∃H',Puts H qs H'∧Inv X pins σ H' s'∧∀b,b∉qs.map (·.1)→H' b=H b
  |[],H,I,_,_=>⟨H,.nil,I,fun _ _=>rfl⟩
  |(a,xs)::qs,H,I,hq,hn=>by
   obtain⟨h1,h2,h3,its,h4,h5⟩:=hq (a,xs) eR;rw[cB,List.nodup_cons] at hn;have I1:Inv X pins σ (upd H a (.tup xs)) s':=I.adopt (I0.tm h1 h2) (gy I0.sz h1) ⟨h3,its,h4,h5⟩;obtain⟨H',p1,p2,p3⟩:=Inv.UO I0 qs (upd H a (.tup xs)) I1 (fun q Ed=>by
     obtain⟨c1,c2,c3,c4⟩:=hq q (et _ Ed);refine⟨c1,?_,c3,c4⟩;rw[ai (fun e=>hn.1 (gC.mpr ⟨q,Ed,e⟩))];exact c2) hn.2
   refine⟨H',.cons h2 h3 p1,p2,fun b hb=>?_⟩;rw[cB,dm,not_or] at hb;rw[p3 b hb.2,ai hb.1]
end
section
variable {X:Cx} {e:Expr} {tE:TE} {p apos aX pos:Pos}
def RC(tE:TE):TE:=fun σ H Q=>tE σ H fun x H1=>∃d ws,x=.ref d∧Rd H1 d (.dT ws)∧∀ps H2 S,Puts H1 ps H2→Paired (fun(kv:List Key×V) (q:Addr×List V)=>∃b,H1 b=some (.tup (kv.1.map kV))∧q.2=[.ref b,kv.2]) ws ps →
  H2 S=none→Q (.ref S) (upd H2 S (.lst (ps.map fun q=>.ref q.1)))
theorem xn:∀(as:List Addr),Vals (as.map V.ref) (as.map Value.ref)
  |[]=>.nil
  |a::as=>.cons rfl (xn as)
theorem AU{P:Program}{w:World}{H1:Hp}{h':Heap}{lo:Addr}:∀{ws:List (List Key×V)} {xs:List (List Key×Addr×Value)} {es:List DictEntry} {as:List Addr},Paired (fun(p:List Key×V) (q:List Key×Addr×Value)=>p.1=q.1∧H1 q.2.1=some (.tup (p.1.map kV))∧RelV p.2 q.2.2) ws xs→es=xs.map (entryOfKey (tupleKind (cI P w)))→as.length=es.length→(∀(j:Nat) (a:Addr),as[j]?=some a→lo<a∧∃en,es[j]?=some en∧h'.get? a=some { cls:=.type "tuple",data:=.seq #[en.key,en.val] })→∃ps:List (Addr×List V),ps.map (·.1)=as∧Paired (fun(kv:List Key×V) (q:Addr×List V)=>∃b,H1 b=some (.tup (kv.1.map kV))∧q.2=[.ref b,kv.2]) ws ps∧∀q∈ps,lo<q.1∧q.2.length≤sizeLine∧∃its:cv,Vals q.2 its∧IsTup h' q.1 its.toArray
  |_,_,es,as,.nil,he,hl,_=>by subst he;have:as=[]:=List.length_eq_zero_iff.mp hl;subst this;exact⟨[],rfl,.nil,fun q hq=>by cases hq⟩
  |_,x::xs,es,as,.cons r t,he,hl,hp=>by
   subst he;cases as with
   |nil=>simp at hl
   |cons a as =>
    obtain⟨ps,e1,e2,e3⟩:=AU (P:=P) (w:=w) (as:=as) t rfl (by simpa using hl) fun j b hb=>hp (j+1) b (by simpa using hb);obtain⟨c1,en,c2,c3⟩:=hp 0 a rfl;cases c2;refine⟨(a,[.ref x.2.1,_])::ps,by rw[cB,e1],.cons ⟨x.2.1,r.2.1,rfl⟩ e2,fun q hq=>?_⟩;rcases dm.mp hq with rfl|hq
    ·exact⟨c1,by show 2≤sizeLine;decide,[.ref x.2.1,x.2.2],.cons rfl (.cons r.2.2 .nil),⟨_,c3,rfl,_,rfl⟩⟩
    ·exact e3 q hq
theorem yL(hc:X.calm=true)(wH:Gl X "list")(nX:X.mg "list"=none)(he:PE X e tE)(cG:attributeBase e "items" X.env (eval e X.env)=eval e X.env:=by rfl)(hline:(apos.endLine==aX.line)=true:=by rfl)(ku:starEach [Expr.Call (.Attribute e "items" apos) [] [] aX] X.env=(false,eval (.Call (.Attribute e "items" apos) [] [] aX) X.env)::starEach [] X.env:=by rfl)(UH:bootBuiltins "list"=some (.type "list"):=by decide +kernel):PE X (.Call (.Name "list" p) [.Call (.Attribute e "items" apos) [] [] aX] [] pos) (RC tE):=by
  intro pins s σ H Q I h;refine sZ (gU I wH nX UH ?_ (by decide) (by decide));refine Bz ?_ ku rfl;rw[ku];show wpAny _ _ (spliced ((false,eval (.Call (.Attribute e "items" apos) [] [] aX) X.env)::backTo pos (starEach [] X.env))) _ _ s;refine v9 ?_;refine wpAny_Call_method0_late cG hline (cQ (he pins s σ H _ I h) fun v s1 ⟨x,H1,I1,r1,q1⟩=>?_);obtain⟨d,ws,rfl,hq,k⟩:=q1;cases r1;have bU:bR X.prog X.w H1 s1.heap d (.dT ws):=by
    rcases hq with hq|⟨ob,hq⟩
    ·exact I1.bU d _ hq
    ·exact(I1.bU d _ hq).2
  obtain⟨hz,Dc,xs,hp,o,es,ep,ho,hex,hd,yr,J0⟩:=bU;have h1:s1.TypeIs (.ref d) "dict":=⟨o,ho,hex.1⟩
  have h2:∀a,Value.ref d=.ref a→∃ob,s1.heap.get? a=some ob∧ob.dict=none:=fun a e=>by cases e;exact⟨o,ho,hex.2.1⟩
  refine⟨"dict","dict.items",PySem.F.plainAttrs_dict,PySem.F.slot_dict_items,PySem.F.type_dict_items,h1,h2,Calls.callWith_builtin rfl (PySem.evalArgs_none ?_)⟩;have hr:fB s1.heap d es ep:=⟨o,ho,hex,hd⟩
  refine call_meetsIn PySem.F.slot_dict_items h1 PySem.F.entry_dict_items (PySem.F.args_dict_items_1 _) (n6 d Dc) ⟨⟨es,ep,hr⟩,?_⟩;refine xG ?_;have hh:X.A.handled=none:=I1.ok.hd hc;have hn:es.size=ws.length:=by rw[←jc,yr,fG,←pJ hp]
  refine NC (s:={ s1 with heap:=s1.heap.push { cls:=.type "dict_items",data:=.fields #[.ref d] } }) (r:=s1.heap.objs.size) (d:=d) (es:=es) (ep:=ep) hh ⟨_,cT _ rfl,rfl,rfl⟩ (hr.at fun o e=>eo _ e) (by rw[hn];exact hz) fun h' tk acc c as hk hS hl hG tG=>?_;have hsz:(s1.heap.push { cls:=.type "dict_items",data:=.fields #[.ref d] }).objs.size=s1.heap.objs.size+1:=kK ..;dsimp only at hS hG⊢;have I2:Inv X pins σ H1 { s1 with heap:=h',toks:=tk }:=I1.kept (h':=h') (t':=tk) fun b o e=>hk b o (eo _ e);obtain⟨ps,e1,e2,e3⟩:=AU (P:=X.prog) (w:=X.w) (lo:=(s1.heap.push { cls:=.type "dict_items",data:=.fields #[.ref d] }).objs.size) (h':=h') (as:=as) hp yr (by rw[jc];exact hl) fun j a hj=>by obtain⟨en,c1,c2⟩:=hG.pairs j a hj;exact⟨hG.above a (zx hj),en,by rw[v3];exact c1,c2⟩
  have XS:(ps.map (·.1)).Nodup:=by rw[e1];exact hG.rise.imp fun h=>dw h
  obtain⟨H2,p1,p2,p3⟩:=Inv.UO (s':={ s1 with heap:=h',toks:=tk }) I1 ps H1 I2 (fun q hq=>by
    obtain⟨c1,c2,c3⟩:=e3 q hq;have Eo:s1.heap.objs.size≤q.1:=ml (Nat.lt_trans (by rw[hsz];exact Nat.lt_succ_self _) c1);exact⟨Eo,I1.bU.fresh Eo,c2,c3⟩) XS
  have UQ:H2 (s1.heap.push { cls:=.type "dict_items",data:=.fields #[.ref d] }).objs.size=none:=by
    rw[p3 _ (fun hm=>?_)]
    ·exact I1.bU.fresh (by omega)
    ·obtain⟨q,hq,e⟩:=gC.mp hm;have:=(e3 q hq).1;rw[e] at this;exact rn _ this
  have hlen:ps.length=ws.length:=(pJ e2).symm;refine⟨.ref (s1.heap.push { cls:=.type "dict_items",data:=.fields #[.ref d] }).objs.size,_,p2.adopt (o:=.lst (ps.map fun q=>.ref q.1)) (I1.tm (by omega) UQ) (gy I1.sz (by omega)) ⟨by rw[fG,hlen];exact hz,as.map Value.ref,c,?_,?_⟩,rfl,k ps H2 _ p1 e2 UQ⟩
  ·have:=xn as;rw[←e1,fA,fA] at this;rw[←e1,fA];exact this
  ·rw[←tG,Array.toArray_toList];exact hS
end
end L2
namespace DL
open PySem PySem.Spec L2
open PyProof.Rows hiding St pairAt
theorem xo:∀{ps:List (Addr×List V)} {F H H2:Hp},Base F H→Puts H ps H2→∃F2,aG F H F2 H2∧∀q∈ps,F2 q.1=some (.tup q.2)
  |_,F,H,_,b,.nil=>⟨F,aG.refl b,fun q hq=>by cases hq⟩
  |_,F,H,_,b,.cons (a:=a) (xs:=xs) h hl t=>by
   have g1:=aG.put b h (.tup xs) hl;obtain⟨F2,g2,k2⟩:=xo g1.base t;refine⟨F2,g1.trans g2,fun q hq=>?_⟩;rcases dm.mp hq with rfl|hq
   ·exact g2.cz _ _ ax
   ·exact k2 q hq
section
variable {X:Cx} {z:Zc} {e:Expr} {p apos aX pos:Pos} {sel:aY→Option lY}
theorem xq{K:PySem.W.Frag}{F H F2:Hp}(b:Base F H)(g:bH F F2):∀{ao:lY} {ws:List (List Key×V)} {ps:List (Addr×List V)},bV K H ao ws→(ao.all fun kv=>kv.2.nP)=true→Paired (fun(kv:List Key×V) (q:Addr×List V)=>∃b,H b=some (.tup (kv.1.map kV))∧q.2=[.ref b,kv.2]) ws ps→(∀q∈ps,F2 q.1=some (.tup q.2))→bz K F2 (kb ao) (ps.map fun q=>.ref q.1)
  |_,_,_,.nil,_,.nil,_=>aO.mpr rfl
  |kv::ao,w::ws,q::ps,.cons h t,hi,.cons r r',hq=>by rw[List.all_cons,oz] at hi;obtain⟨h1,h2⟩:=h;obtain⟨c,c1,c2⟩:=r;refine av.mpr ⟨_,_,rfl,?_,xq b g t hi.2 r' fun q' Ed=>hq q' (et _ Ed)⟩;have fq:=hq q eR;rw[c2] at fq;refine aI.mpr ⟨q.1,_,rfl,fq,av.mpr ⟨_,_,rfl,?_,il (aL g _ _ (ng (fun a o=>b.tup a o) _ _ hi.1 h2))⟩⟩;rw[h1];exact aI.mpr ⟨c,_,rfl,g _ _ (b.tup _ _ c1 rfl),qm _⟩
def yM(sel:aY→Option lY):LF:=fun η=>(sel η).bind fun ao=>if (ao.all fun kv=>kv.2.nP)=true∧ao.length≤1000 then some (kb ao) else none
theorem yN(hc:X.calm=true)(wH:Gl X "list")(nX:X.mg "list"=none)(R:UI X z e sel)(cG:attributeBase e "items" X.env (eval e X.env)=eval e X.env:=by rfl)(hline:(apos.endLine==aX.line)=true:=by rfl)(ku:starEach [Expr.Call (.Attribute e "items" apos) [] [] aX] X.env=(false,eval (.Call (.Attribute e "items" apos) [] [] aX) X.env)::starEach [] X.env:=by rfl):DO X z (.Call (.Name "list" p) [.Call (.Attribute e "items" apos) [] [] aX] [] pos) (yM sel):=by
  obtain⟨tE,pe,at_⟩:=R.ex;refine PE.weak (yL hc wH nX pe cG hline ku (by decide +kernel)) fun σ H Q ⟨η,F,ds,r,e,k⟩=>?_;unfold yM at e;obtain⟨ao,h1,e⟩:=cR.mp e;by_cases hc:(ao.all fun kv=>kv.2.nP)=true∧ao.length≤1000
  · rw[ay hc] at e;cases e;obtain⟨q,ws,a1,a2,a3⟩:=at_ σ H η F ao r h1;refine a3 _ ⟨q,ws,rfl,a1,fun ps H2 S hp hpr hS=>?_⟩;obtain⟨F2,g,G8⟩:=xo r.base hp;have hl:(ps.map fun(q:Addr×List V)=>V.ref q.1).length≤sizeLine:=by
      rw[fG,←pJ hpr,←ja a2];exact ml (eF hc.2)
    have g2:=aG.own g.base hS (.lst (ps.map fun(q:Addr×List V)=>V.ref q.1)) hl rfl;exact k S _ _ F2 (g.trans g2) (g.ent.free hS) (g.base.sub.free hS) ax (xq r.base g.cz a2 hc.1 hpr G8)
  ·rw[az hc] at e;cases e
end
end DL
namespace L2
open PySem PySem.Spec PyProof.Rows PySem.W MB
section
variable {X:Cx} {e:Expr} {tE:TE} {p apos aX pos:Pos}
def RD(tE:TE):TE:=fun σ H Q=>tE σ H fun x H1=>∃d ws,x=.ref d∧Rd H1 d (.dT ws)∧∀S,H1 S=none→Q (.ref S) (upd H1 S (.lst (ws.map fun(kv:List Key×V)=>kv.2)))
theorem Fp{P:Program}{w:World}{H1:Hp}:∀{ws:List (List Key×V)} {xs:List (List Key×Addr×Value)} {es:List DictEntry} {us:cv},Paired (fun(p:List Key×V) (q:List Key×Addr×Value)=>p.1=q.1∧H1 q.2.1=some (.tup (p.1.map kV))∧RelV p.2 q.2.2) ws xs→es=xs.map (entryOfKey (tupleKind (cI P w)))→us.length=es.length→(∀(j:Nat) (v:Value),us[j]?=some v→∃en,es[j]?=some en∧v=en.val)→Vals (ws.map fun(kv:List Key×V)=>kv.2) us
  |_,_,es,us,.nil,he,hl,_=>by subst he;have:us=[]:=List.length_eq_zero_iff.mp hl;subst this;exact .nil
  |_,x::xs,es,us,.cons r t,he,hl,hp=>by
   subst he;cases us with
   |nil=>simp at hl
   |cons u us=>obtain⟨en,c1,rfl⟩:=hp 0 u rfl;cases c1;exact .cons r.2.2 (Fp (P:=P) (w:=w) t rfl (by simpa using hl) fun j v hv=>by simpa using hp (j+1) v (by simpa using hv))
theorem AV(hc:X.calm=true)(wH:Gl X "list")(nX:X.mg "list"=none)(he:PE X e tE)(cG:attributeBase e "values" X.env (eval e X.env)=eval e X.env:=by rfl)(hline:(apos.endLine==aX.line)=true:=by rfl)(ku:starEach [Expr.Call (.Attribute e "values" apos) [] [] aX] X.env=(false,eval (.Call (.Attribute e "values" apos) [] [] aX) X.env)::starEach [] X.env:=by rfl)(UH:bootBuiltins "list"=some (.type "list"):=by decide +kernel):PE X (.Call (.Name "list" p) [.Call (.Attribute e "values" apos) [] [] aX] [] pos) (RD tE):=by
  intro pins s σ H Q I h;refine sZ (gU I wH nX UH ?_ (by decide) (by decide));refine Bz ?_ ku rfl;rw[ku];show wpAny _ _ (spliced ((false,eval (.Call (.Attribute e "values" apos) [] [] aX) X.env)::backTo pos (starEach [] X.env))) _ _ s;refine v9 ?_;refine wpAny_Call_method0_late cG hline (cQ (he pins s σ H _ I h) fun v s1 ⟨x,H1,I1,r1,q1⟩=>?_);obtain⟨d,ws,rfl,hq,k⟩:=q1;cases r1;have bU:bR X.prog X.w H1 s1.heap d (.dT ws):=by
    rcases hq with hq|⟨ob,hq⟩
    ·exact I1.bU d _ hq
    ·exact(I1.bU d _ hq).2
  obtain⟨hz,Dc,xs,hp,o,es,ep,ho,hex,hd,yr,J0⟩:=bU;have h1:s1.TypeIs (.ref d) "dict":=⟨o,ho,hex.1⟩
  have h2:∀a,Value.ref d=.ref a→∃ob,s1.heap.get? a=some ob∧ob.dict=none:=fun a e=>by cases e;exact⟨o,ho,hex.2.1⟩
  refine⟨"dict","dict.values",PySem.F.plainAttrs_dict,PySem.F.slot_dict_values,PySem.F.type_dict_values,h1,h2,Calls.callWith_builtin rfl (PySem.evalArgs_none ?_)⟩;have hr:fB s1.heap d es ep:=⟨o,ho,hex,hd⟩
  refine call_meetsIn PySem.F.slot_dict_values h1 PySem.F.entry_dict_values (PySem.F.args_dict_values_1 _) (qC Dc) ⟨⟨es,ep,hr⟩,?_⟩;refine xG ?_;have hh:X.A.handled=none:=I1.ok.hd hc;have hn:es.size=ws.length:=by rw[←jc,yr,fG,←pJ hp]
  refine kdl_call (s:={ s1 with heap:=s1.heap.push { cls:=.type "dict_values",data:=.fields #[.ref d] } }) (Fh (r:=s1.heap.objs.size) (d:=d) (es:=es) (ep:=ep)) hh ⟨⟨_,cT _ rfl,rfl,rfl⟩,hr.at fun o e=>eo _ e⟩ (by rw[hn];exact hz) fun h' tk acc c hk hS tG=>?_;have hsz:(s1.heap.push { cls:=.type "dict_values",data:=.fields #[.ref d] }).objs.size=s1.heap.objs.size+1:=kK ..;dsimp only at hS⊢;have I2:Inv X pins σ H1 { s1 with heap:=h',toks:=tk }:=I1.kept (h':=h') (t':=tk) fun b o e=>hk b o (eo _ e);have Eo:s1.heap.objs.size≤(s1.heap.push { cls:=.type "dict_values",data:=.fields #[.ref d] }).objs.size:=by rw[hsz];exact Nat.le_succ _
  have UQ:=I1.bU.fresh Eo;refine⟨.ref (s1.heap.push { cls:=.type "dict_values",data:=.fields #[.ref d] }).objs.size,_,I2.adopt (o:=.lst (ws.map fun(kv:List Key×V)=>kv.2)) (I1.tm Eo UQ) (gy I1.sz Eo) ⟨by rw[fG];exact hz,acc.toList,c,?_,?_⟩,rfl,k _ UQ⟩
  ·exact Fp (P:=X.prog) (w:=X.w) hp yr (by rw[jc,jc];exact tG.1) fun j v hv=>by obtain⟨en,c1,c2⟩:=tG.2 j v (by rw[←v3];exact hv);exact⟨en,by rw[v3];exact c1,c2⟩
  ·rw[Array.toArray_toList];exact hS
end
end L2
namespace DL
open PySem PySem.Spec L2
open PyProof.Rows hiding St pairAt
section
variable {X:Cx} {z:Zc} {e:Expr} {p apos aX pos:Pos} {sel:aY→Option lY}
theorem AW{K:PySem.W.Frag}{F H:Hp}(b:Base F H):∀{ao:lY} {ws:List (List Key×V)},bV K H ao ws→(ao.all fun kv=>kv.2.nP)=true→bz K F (ao.map (·.2)) (ws.map fun(kv:List Key×V)=>kv.2)
  |_,_,.nil,_=>aO.mpr rfl
  |kv::ao,w::ws,.cons h t,hi=>by rw[List.all_cons,oz] at hi;exact av.mpr ⟨_,_,rfl,ng (fun a o=>b.tup a o) _ _ hi.1 h.2,AW b t hi.2⟩
def sf(sel:aY→Option lY):LF:=fun η=>(sel η).bind fun ao=>if (ao.all fun kv=>kv.2.nP)=true∧ao.length≤1000 then some (ao.map (·.2)) else none
theorem AX(hc:X.calm=true)(wH:Gl X "list")(nX:X.mg "list"=none)(R:UI X z e sel)(cG:attributeBase e "values" X.env (eval e X.env)=eval e X.env:=by rfl)(hline:(apos.endLine==aX.line)=true:=by rfl)(ku:starEach [Expr.Call (.Attribute e "values" apos) [] [] aX] X.env=(false,eval (.Call (.Attribute e "values" apos) [] [] aX) X.env)::starEach [] X.env:=by rfl):DO X z (.Call (.Name "list" p) [.Call (.Attribute e "values" apos) [] [] aX] [] pos) (sf sel):=by
  obtain⟨tE,pe,at_⟩:=R.ex;refine PE.weak (AV hc wH nX pe cG hline ku (by decide +kernel)) fun σ H Q ⟨η,F,ds,r,e,k⟩=>?_;unfold sf at e;obtain⟨ao,h1,e⟩:=cR.mp e;by_cases hc:(ao.all fun kv=>kv.2.nP)=true∧ao.length≤1000
  · rw[ay hc] at e;cases e;obtain⟨q,ws,a1,a2,a3⟩:=at_ σ H η F ao r h1;refine a3 _ ⟨q,ws,rfl,a1,fun S hS=>?_⟩;have hl:(ws.map fun(kv:List Key×V)=>kv.2).length≤sizeLine:=by
      rw[fG,←ja a2];exact ml (eF hc.2)
    have g2:=aG.own r.base hS (.lst (ws.map fun(kv:List Key×V)=>kv.2)) hl rfl;exact k S _ _ F g2 hS (r.base.sub.free hS) ax (AW r.base a2 hc.1)
  ·rw[az hc] at e;cases e
end
end DL
namespace L2
open PySem PySem.Spec PyProof.Rows
section
variable {X:Cx} {e:Expr} {te:TE} {p p' pos pos':Pos}
def AY(ys:dC):Nat:=(NR.fN (fun i=>ys.getD i ⟨#[]⟩) ys.length).length
theorem Ku{ys:dC}(r:Vals (ys.map V.str) us){v:Value}(h:us[i]?=some v):∃t,v=Value.str (ys.getD i ⟨#[]⟩) t:=by obtain⟨y,e1,e2⟩:=Rt r h;rw[eS] at e1;obtain⟨x,e3,e4⟩:=iB.mp e1;subst e4;obtain⟨t,e5⟩:=e2;exact⟨t,by rw[jb,e3];exact e5⟩
def RG(K:PySem.W.Frag)(te:TE):TE:=fun σ H Q=>te σ H fun x H1=>∃(a:Addr) (ys:dC),x=.ref a∧eW K H1 a (ys.map V.str)∧ys.length≤1000∧Q (.int (AY ys:Nat)) H1
theorem Di(hc:X.calm=true)(wH:Gl X "len")(nX:X.mg "len"=none)(hg:Gl X "set")(hm:X.mg "set"=none)(he:PE X e te)(hs:starEach [e] X.env=(false,eval e X.env)::starEach [] X.env:=by rfl)(ku:starEach [Expr.Call (.Name "set" p') [e] [] pos'] X.env=(false,eval (.Call (.Name "set" p') [e] [] pos') X.env)::starEach [] X.env:=by rfl):PE X (.Call (.Name "len" p) [.Call (.Name "set" p') [e] [] pos'] [] pos) (RG X.K te):=by
  intro pins s σ H Q I h;refine sZ (gU I wH nX dy ?_ (by decide) (by decide));refine PyProof.Rows.callWith_builtin1 ?_ ku rfl;rw[ku];show wpAny _ _ (spliced ((false,eval (.Call (.Name "set" p') [e] [] pos') X.env)::backTo pos (starEach [] X.env))) _ _ s;refine v9 ?_;refine sZ (gU I hg hm IZ ?_ (by decide) (by decide));refine Bz ?_ hs rfl;rw[hs];show wpAny _ _ (spliced ((false,eval e X.env)::backTo pos' (starEach [] X.env))) _ _ s;refine v9 (cQ (he pins s σ H _ I h) fun u s1 ⟨x,H1,I1,r1,q1⟩=>?_);refine xG ?_;obtain⟨a,ys,rfl,hq,hl,hk⟩:=q1;cases r1;obtain⟨its,rv,pl,_⟩:=I1.list hq;have l1:its.length=ys.length:=by have:=rv.length;rw[fG] at this;exact this.symm
  have hh:X.A.handled=none:=I1.ok.hd hc;refine NR.G6 (val:=fun i=>ys.getD i ⟨#[]⟩) hh pl.isList (by rw[eE,l1];exact Nat.lt_of_le_of_lt (Nat.succ_le_succ hl) (by decide)) (fun i v hv=>Ku rv (by simpa using hv)) fun h' tk hS J8=>?_;refine xG ?_;rw[show its.toArray.size=ys.length from by rw[eE,l1]] at hS;obtain⟨o,es,ep,t,ho,hex,hd,Xy,acZ,hb,hf,hn⟩:=hS;have h6:=NR.u9 (fun i=>ys.getD i ⟨#[]⟩) ys.length;refine call_len_set ho hex hd hf (by omega) ?_;have oG:∀b o,s1.heap.get? b=some o→h'.get? b=some o:=fun b o q=>J8 b o (bL q) q;refine⟨.int _,H1,I1.kept (h':=h') (t':=tk+1+1) oG,⟨_,rfl⟩,?_⟩;rw[hn];exact hk
end
end L2
namespace DL
open PySem PySem.Spec L2
open PyProof.Rows hiding St pairAt
section
variable {X:Cx} {z:Zc} {e:Expr} {f:EF} {p p' pos pos':Pos}
def yO(f:EF):EF:=fun η=>(f η).bind fun d=>match d with
  |.lst ds=>(nZ ds).bind fun ys=>if ys.length≤1000 then some (.int (AY ys:Nat)) else none
  |_=>none
theorem Kv(hc:X.calm=true)(wH:Gl X "len")(nX:X.mg "len"=none)(hg:Gl X "set")(hm:X.mg "set"=none)(ha:DB X z e f)(hs:starEach [e] X.env=(false,eval e X.env)::starEach [] X.env:=by rfl)(ku:starEach [Expr.Call (.Name "set" p') [e] [] pos'] X.env=(false,eval (.Call (.Name "set" p') [e] [] pos') X.env)::starEach [] X.env:=by rfl):DE X z (.Call (.Name "len" p) [.Call (.Name "set" p') [e] [] pos'] [] pos) (yO f):=PE.weak (Di hc wH nX hg hm ha hs ku) fun σ H Q ⟨η,F,d,r,e,k⟩=>by
  unfold yO at e;obtain⟨d',h1,e⟩:=cR.mp e;cases d' with
  |lst ds =>
   obtain⟨ys,h3,e⟩:=cR.mp e;by_cases hl:ys.length≤1000
   ·rw[ay hl] at e;cases e;refine⟨η,F,_,r,h1,fun v H1 F1 g1 q1=>?_⟩;obtain⟨a,ws,rfl,h4,h5⟩:=aK.mp q1;rw[qz h3] at h5;rw[lq h5] at h4;exact⟨a,ys,rfl,h4,hl,k _ H1 F1 g1 (aD.mpr rfl)⟩
   ·rw[az hl] at e;cases e
  |_=>cases e
end
end DL
namespace L2
open PySem PySem.Spec PyProof.Rows
section
variable {X:Cx} {pins:gu} {σ:St} {H:Hp} {s:Shared}
theorem Inv.XT{o:Obj}(hz:∀o u,X.H₀ d≠some (.gL o u))(I:Inv X pins σ H s)(h:H d=some (.gL o (.dT ao))):Inv X pins σ (upd H d (.dT ao)) s:=by
  refine⟨I.ok,I.os,I.bare,⟨I.base.keep,I.base.slot,fun b u e n hx=>?_,I.base.there,fun b xs e=>?_,fun b u xs e=>?_,fun b ps e=>?_⟩,I.loc,I.cell,?_,fun x c e=>?_,fun p hp=>?_,fun b u e=>?_,I.len⟩
  ·have q:=I.base.free b u e n hx;rw[ai (fun z=>by rw[z,h] at q;cases q)];exact q
  ·have q:=I.base.oB b xs e;rw[ai (mr q h (fun z=>nomatch z))];exact q
  ·rw[ai (fun z=>hz u xs (by rw[←z];exact e))];exact I.base.oC b u xs e
  ·obtain⟨m,q⟩:=I.base.rA b ps e;exact⟨m,by rw[ai (mr q h (fun z=>nomatch z))];exact q⟩
  ·have q:=I.free;rw[ai (fun z=>by rw[z,h] at q;cases q)];exact q
  ·have q:=I.fI x c e;rw[ai (fun z=>by rw[z,h] at q;cases q)];exact q
  ·obtain⟨e,n,rr⟩:=I.pin p hp;exact⟨e,by rw[ai (fun z=>by rw[z,h] at n;cases n)];exact n,rr⟩
  · have ho:∀c,H c=some (.own b)→upd H d (.dT ao) c=some (.own b):=fun c q=>by
      rw[ai (mr q h (fun z=>nomatch z))];exact q
    have ht:∀c ys,H c=some (.tup ys)→upd H d (.dT ao) c=some (.tup ys):=fun c ys q=>by rw[ai (mr q h (fun z=>nomatch z))];exact q
    by_cases hb:b=d
    ·subst hb;rw[ax] at e;cases e;exact(I.bU b _ h).2.gR (fun _ _ _ q=>q) ho ht
    ·rw[ai hb] at e;exact(I.bU b u e).gR (fun _ _ _ q=>q) ho ht
theorem sg{t:TE}(h:PE X e t):PE X e (fun σ H Q=>∃d ao,H d=some (.dT ao)∧∀o,t σ (upd H d (.gL o (.dT ao))) fun x H'=>H' d=some (.gL o (.dT ao))∧Q x (upd H' d (.dT ao))):=fun pins s σ H Q I ⟨d,ao,hd,k⟩=>by
  obtain⟨o,_,I2⟩:=I.freeze hd;have hz:∀o u,X.H₀ d≠some (.gL o u):=fun o u e=>by have:=I.base.oC d o u e;rw[hd] at this;cases this
  exact cQ (h pins s σ _ _ I2 (k o)) fun v s1 ⟨x,H1,I1,r1,h1,q1⟩=>⟨x,_,I1.XT hz h1,r1,q1⟩
end
end L2
namespace DL
open PySem PySem.Spec L2
open PyProof.Rows hiding St pairAt
section
variable {K:PySem.W.Frag} {F H:Hp} {p q C:Addr} {ws:eZ} {ao yP:lY}
theorem Hb{E:XK}{wv Rz:List (List Key×V)}(b:Base F H)(HF:p≠q)(hF:F p=none)(hH:H p=some (.dT wv))(G8:F q=none)(G9:H q=some (.dT Rz))(hb:ip K F v C ws p)(hd:bV K F ao wv)(hd2:bV K F yP Rz)(ha:bz K F ds vs):Rel K (zX F (cX (cX H p) q) E) F H ((v::.ref q::vs).map some) ((.bx p C ws ao::.od q yP::gf ds).map some):=by
  have b1:=dg b hF;have hq1:cX H p q=some (.dT Rz):=by rw[cF (dq HF)];exact G9
  have g1:aG F (cX (cX H p) q) F (cX H p):=by have:=aG.own (dg b1 G8) bQ (.dT Rz) (b.sR _ _ G9) rfl;rw[tY hq1] at this;exact this
  have g2:aG F (cX H p) F H:=by have:=aG.own b1 bQ (.dT wv) (b.sR _ _ hH) rfl;rw[tY hH] at this;exact this
  have Rc:cX (cX H p) q p=none:=by rw[cF HF];exact bQ
  refine⟨g1.trans g2,by simp[gf,aJ ha],fun j s e=>?_,fun j k sj sk vj vk r Es ej ek oj ok hj hk h1 h2=>?_⟩
  · match j,e with
    |0,e=>cases e;exact⟨v,rfl,(bP (sl:=.bx _ _ _ _) rfl).mpr ⟨p,_,⟨rfl,hb⟩,Rc,hF,hH,wv,rfl,hd⟩⟩
    |1,e=>cases e;exact⟨.ref q,rfl,(bP (sl:=.od _ _) rfl).mpr ⟨q,_,⟨rfl,rfl⟩,bQ,G8,G9,Rz,rfl,hd2⟩⟩
    |j+2,e=>obtain⟨_,w,h1,h2⟩:=fO (E:=E) (H:=H) (H₀:=cX (cX H p) q) ha j s (by simpa using e);exact⟨w,by simpa using h1,h2⟩
  · have shr:∀(i:Nat) s,((.bx p C ws ao::.od q yP::gf ds).map some)[i+2]?=some (some s)→s.own=true→False:=fun i s e o=>by
      obtain⟨o',_⟩:=fO (E:=E) (H:=H) (H₀:=cX (cX H p) q) ha i s (by simpa using e);rw[o'] at o;cases o
    match j,k,ej,ek with
    |0,0,_,_=>exact Es rfl
    |1,1,_,_=>exact Es rfl
    |0,1,ej,ek=>cases ej;cases ek;exact HF (h1.1.symm.trans h2.1)
    |1,0,ej,ek=>cases ej;cases ek;exact HF (h2.1.symm.trans h1.1)
    |j+2,_,ej,_=>exact shr j sj ej oj
    |0,k+2,_,ek=>exact shr k sk ek ok
    |1,k+2,_,ek=>exact shr k sk ek ok
end
theorem AZ{K:PySem.W.Frag}{base:Heap}{st:Stmt}{f:Addr}{dV kV doc pm di ct oc:Value}{ps:dC}{own:List Nat}{g:SF}(lk:K.lookup f=some ⟨oc,od,.func (fnOf x qual (bM st) (bA st) (aj st) dV kV doc pm an di ct),wc⟩)(dR:codeIn K di qual=true)(S:bq N ps (aj st))(hb:∀(A:Around) (outer:List Env) (s:Shared) (H:Hp) (E:XK) (F₀ H₀:Hp),cU k (A.deeper (envOfC qual (aj st) s.heap.objs.size f di))→Ji (wg (CP P w) P w K mg base N qual (aj st) f di A outer s H E) (zX F₀ H₀ E) (bA st) g):cD P w K mg base (CP P w) (k+1) f (fnOf x qual (bM st) (bA st) (aj st) dV kV doc pm an di ct) ps (spS K ps.length (Bw N.length own g)):=by
  refine Im lk dR S (fun vs H Q E h=>?_) (fun A outer s H vs Q E hr h=>?_)
  ·obtain⟨F,H₀,vf,r,hl,_⟩:=h;exact hl
  · obtain⟨F,H₀,vf,r,hl,rl,e,q⟩:=h;refine⟨_,hb A outer s H E F H₀ hr,?_⟩;have hlen:vs.length=vf.length:=by have:=rl.len;simpa using this
    have XO:Rel K (zX F H₀ E) F H (L2.start N vs) (ka N.length vf):=by unfold L2.start ka;rw[←hlen];exact Fj _ rl
    unfold Bw at e;cases o:g (ka N.length vf) with
    |none=>rw[o] at e;cases e
    |some o' =>
     rw[o] at e;refine⟨_,F,o',XO,o,?_⟩;cases o' with
     |rt r'=>cases e;cases r<;>exact q
     |nx η'=>obtain⟨l,e1,rfl⟩:=iB.mp e;exact fun σ' H' F' r' _=>q .non H' F' r'.mem (bI.mpr rfl) (qD r' e1)
     |bk _=>cases e
     |ct _=>cases e
section
variable {X:Cx} {z:Zc}
theorem NF{y:Str}(hg:Gl X x)(hm:∃t,X.mg x=some (.str y t))(hd:(x==("__debug__":Str))=false:=by decide):DE X z (.Name x px) (eC (.str y)):=by obtain⟨t,hm⟩:=hm;refine PE.weak (L5 (v:=.str y) hg hm ⟨t,rfl⟩ hd) fun σ H Q ⟨η,F,d,r,e,k⟩=>?_;cases e;exact k _ H F (aG.refl r.base) (aQ.mpr rfl)
end
structure Hc (P:Program) (w:World) (K:PySem.W.Frag) (mg:Str→fu) (base:Heap) (k:Nat) (f:Addr) (ps:dC) (sp:Sp):Prop where
  ex:∃fd,cD P w K mg base (CP P w) k f fd ps sp∧Binds K fd ps []∧(∃t,Binds K fd ps [.int 1 t])∧keepIn K (.ref f)=true
theorem RH:bootBuiltins "all"=some (.builtin "all"):=PyProof.Rows.boot_all
section
variable {X:Cx} {z:Zc} {pos pos' px apos:Pos} {C0 f:Addr} {n N:Nat} {ps:dC} {Fn:List Slot→eY} {x m:Str} {e:Expr} {es:List Expr} {ms:List Bool} {fs:LF}
theorem A0(i:Nat)(own:List Nat)(cl:vW X.K C0)(hm:Meth X.K C0 m f)(C:Hc X.prog X.w X.K X.mg X.base n f ps (spS X.K N Fn))(hr:cU n X.A)(ha:DM X z (e::es) ms fs)(nX:ms.all id=true:=by rfl)(hn:N=1+(ms.length+0):=by rfl)(hN:X.N[i]?=some x:=by rfl)(hv:pL X.env.scope x:=by first|exact Or.inl rfl|exact Or.inr (Or.inl rfl)|exact Or.inr (Or.inr rfl))(De:(m==("words":Str))=false:=by decide)(Fm:(m==("lying":Str))=false:=by decide)(iE:(x==("__debug__":Str))=false:=by decide)(dR:(x==("__classdict__":Str))=false:=by decide)(BH:starEach (e::es) X.env=(false,eval e X.env)::starEach es X.env:=by rfl)(m8:(backTo pos (starEach es X.env)).any (·.1)=false:=by rfl)(ht:eval (.Call (.Attribute (.Name x px) m apos) (e::es) [] pos) X.env=(do
      let ov ←eval (.Name x px) X.env
      standAt apos.atName
      let (f,first) ←holding [ov] (getMethod ov m pl)
      callWith pos f first (backTo pos (starEach (e::es) X.env)) (backToKw pos (keywordEach [] X.env))):=by rfl):DS X z (.Return (some (.Call (.Attribute (.Name x px) m apos) (e::es) [] pos)) pos') (lO C0 i own fs [] Fn):=by
  obtain⟨fd,G,b,_,kp⟩:=C.ex;exact Fo (pl:=pl) i own cl hm G hr b .nil (fun F=>aO.mpr rfl) nX hn ha hN hv De Fm iE dR BH m8 ht
theorem A1(i:Nat)(own:List Nat)(cl:vW X.K C0)(hm:Meth X.K C0 m f)(C:Hc X.prog X.w X.K X.mg X.base n f ps (spS X.K N Fn))(hr:cU n X.A)(ha:DM X z (e::es) ms fs)(nX:ms.all id=true:=by rfl)(hn:N=1+(ms.length+1):=by rfl)(hN:X.N[i]?=some x:=by rfl)(hv:pL X.env.scope x:=by first|exact Or.inl rfl|exact Or.inr (Or.inl rfl)|exact Or.inr (Or.inr rfl))(De:(m==("words":Str))=false:=by decide)(Fm:(m==("lying":Str))=false:=by decide)(iE:(x==("__debug__":Str))=false:=by decide)(dR:(x==("__classdict__":Str))=false:=by decide)(BH:starEach (e::es) X.env=(false,eval e X.env)::starEach es X.env:=by rfl)(m8:(backTo pos (starEach es X.env)).any (·.1)=false:=by rfl)(ht:eval (.Call (.Attribute (.Name x px) m apos) (e::es) [] pos) X.env=(do
      let ov ←eval (.Name x px) X.env
      standAt apos.atName
      let (f,first) ←holding [ov] (getMethod ov m pl)
      callWith pos f first (backTo pos (starEach (e::es) X.env)) (backToKw pos (keywordEach [] X.env))):=by rfl):DS X z (.Return (some (.Call (.Attribute (.Name x px) m apos) (e::es) [] pos)) pos') (lO C0 i own fs [.int 1] Fn):=by
  obtain⟨fd,G,_,⟨t,b⟩,kp⟩:=C.ex;exact Fo (pl:=pl) (dvs:=[.int 1]) i own cl hm G hr b (.cons ⟨t,rfl⟩ .nil) (fun F=>il (aD.mpr rfl)) nX hn ha hN hv De Fm iE dR BH m8 ht
end
theorem PE.UR{f:EF}(h:∀z,DE X z e f):PE X e (fun σ H Q=>∃z,vE X.K z f σ H Q):=fun pins s σ H Q I ⟨z,q⟩=>h z pins s σ H Q I q
theorem PE.XU{f:LF}(h:∀z,DO X z e f):PE X e (fun σ H Q=>∃z,vO X.K z f σ H Q):=fun pins s σ H Q I ⟨z,q⟩=>h z pins s σ H Q I q
theorem PI.rJ{m:Bool}{f:LF}(h:∀z,DI X z tg e m f):PI X tg e (fun σ H R=>∃z,vI X.K z m f σ H R):=fun pins s σ H R I ⟨z,q⟩=>h z pins s σ H R I q
def iS(K:PySem.W.Frag)(F H₀:Hp):aY→St→Prop
  |[],[]=>True
  |none::η,_::σ=>iS K F H₀ η σ
  |some (.sh d)::η,some v::σ=>Den K F d v∧iS K F H₀ η σ
  |some (.br d)::η,some v::σ=>Den K H₀ d v∧iS K F H₀ η σ
  |_,_=>False
section
variable {K:PySem.W.Frag} {z:Zc} {F H F' H':Hp} {σ:St} {η:aY}
theorem iS.len:∀{η:aY} {σ:St},iS K F H η σ→σ.length=η.length
  |[],[],_=>rfl
  |none::η,v::σ,h=>by
   have h':iS K F H η σ:=by cases v<;>exact h
   rw[eT,eT,h'.len]
  |some (.sh d)::η,some v::σ,h=>by rw[eT,eT,iS.len (show iS K F H η σ from h.2)]
  |some (.br d)::η,some v::σ,h=>by rw[eT,eT,iS.len (show iS K F H η σ from h.2)]
  |[],_::_,h=>h.elim
theorem iS.at:∀{η:aY} {σ:St},iS K F H η σ→∀(i:Nat) sl,η[i]?=some (some sl)→sl.own=false∧∃v,σ[i]?=some (some v)∧((∃d,sl=.sh d∧Den K F d v)∨(∃d,sl=.br d∧Den K H d v))
  |[],_,_,i,sl,e=>by simp at e
  |none::η,v::σ,h,i,sl,e=>by
   have h':iS K F H η σ:=by cases v<;>exact h
   cases i with
   |zero=>cases e
   |succ i=>exact h'.at i sl e
  |some (.sh d)::η,some v::σ,h,i,sl,e=>by
   cases i with
   |zero=>cases e;exact⟨rfl,v,rfl,.inl ⟨d,rfl,h.1⟩⟩
   |succ i=>exact iS.at (show iS K F H η σ from h.2) i sl e
  |some (.br d)::η,some v::σ,h,i,sl,e=>by
   cases i with
   |zero=>cases e;exact⟨rfl,v,rfl,.inr ⟨d,rfl,h.1⟩⟩
   |succ i=>exact iS.at (show iS K F H η σ from h.2) i sl e
theorem iS.rel(h:iS K F z.H₀ η σ)(g:aG z.F₀ z.H₀ F H):Rel K z F H σ η where
  mem:=g
  len:=h.len
  at_:=fun i sl e=>by
    obtain⟨_,v,h1,h2⟩:=h.at i sl e;rcases h2 with⟨d,rfl,h2⟩|⟨d,rfl,h2⟩
    ·exact⟨v,h1,h2⟩
    ·exact⟨v,h1,h2⟩
  apart:=fun i j si sj vi vj p _ ei _ oi=>by obtain⟨o,_⟩:=h.at i si ei;rw[o] at oi;cases oi
def Ez:Addr→Hp→Prop:=fun _ _=>False
theorem A2{f:EF}{d:D}{Q:VK}(b:Base F H)(h:iS K F H η σ)(e:f η=some d)(k:∀v H' F',aG F H F' H'→Den K F' d v→Q v H'):∃z,vE K z f σ H Q :=
  ⟨⟨F,H,Ez⟩,η,F,d,iS.rel (z:=⟨F,H,Ez⟩) h (aG.refl b),e,k⟩
theorem Kw{f:LF}{Q:VK}(b:Base F H)(h:iS K F H η σ)(e:f η=some ds)(k:∀p vs H' F',aG F H F' H'→H p=none→F' p=none→H' p=some (.lst vs)→bz K F' ds vs→Q (.ref p) H'):∃z,vO K z f σ H Q :=
  ⟨⟨F,H,Ez⟩,η,F,ds,iS.rel (z:=⟨F,H,Ez⟩) h (aG.refl b),e,k⟩
def gJ(K:PySem.W.Frag)(F H:Hp)(p:Addr)(ao:lY):Prop:=F p=none∧∃w,H p=some (.dT w)∧bV K F ao w
variable {p q C:Addr} {ao yP:lY} {ws ds:eZ} {vs:List V}
theorem gJ.grow(o:gJ K F H p ao)(g:aG F H F' H'):gJ K F' H' p ao:=by obtain⟨h1,w,h2,h3⟩:=o;exact⟨i7 (K:=K) g h1 h2 rfl,w,g.ent _ _ h2,h3.mono g.cz⟩
theorem gJ.cX(o:gJ K F H p ao)(h:p≠q):gJ K F (cX H q) p ao:=by obtain⟨h1,w,h2,h3⟩:=o;exact⟨h1,w,by rw[cF h];exact h2,h3⟩
theorem gJ.put(o:gJ K F H p ao)(h:p≠q)(u:HO):gJ K F (upd H q u) p ao:=by obtain⟨h1,w,h2,h3⟩:=o;exact⟨h1,w,by rw[ai h];exact h2,h3⟩
theorem aG.cX{F0 H0:Hp}(g:aG F0 H0 F H)(h0:H0 p=none)(hF:F p=none):aG F0 H0 F (cX H p) where
  base:=dg g.base hF
  cz:=g.cz
  ent:=fun a o h=>by rw[cF (aP h h0)];exact g.ent a o h
  new:=g.new
theorem kF(b:Base F H)(hF:F p=none)(hH:H p=some o)(ht:Bt o=false):aG F (DL.cX H p) F H:=by have:=aG.own (dg b hF) bQ o (b.sR _ _ hH) ht;rw[tY hH] at this;exact this
theorem vh{u:HO}(b:Base F H)(hF:F p=none)(hH:H p=some o)(ht:Bt o=false)(hl:nV u)(hu:Bt u=false):Base F (upd H p u) :=
  ((kF b hF hH ht).write bQ hF hl hu).base
theorem Kx{Fn:List Slot→eY}{k1 k2:lY}{Q:VK}{E:XK}(b:Base F H)(HF:p≠q)(op:gJ K F H p ao)(oq:gJ K F H q yP)(hb:ip K F v C ws p)(hd:bz K F ds vs)(hn:2+ds.length=n)(e:Fn (.bx p C ws ao::.od q yP::gf ds)=some (.rw .non [(p,k1),(q,k2)]))(k:∀H' F',aG F (DL.cX (DL.cX H p) q) F' H'→gJ K F' H' p k1→gJ K F' H' q k2→Q .non H'):spS K n Fn (v::.ref q::vs) H Q E:=by
  obtain⟨hF,wv,hH,dv⟩:=op;obtain⟨G8,Rz,G9,Wb⟩:=oq;refine⟨F,DL.cX (DL.cX H p) q,_,_,?_,Hb b HF hF hH G8 G9 hb dv Wb hd,e,?_⟩
  ·rw[←hn,aJ hd,eT,eT];omega
  ·intro v' H' F' g hv hl;rw[bI.mp hv];obtain⟨_,a1,a2⟩:=hl (p,k1) (by simp);obtain⟨_,b1,b2⟩:=hl (q,k2) (by simp);exact k H' F' g ⟨a1,a2⟩ ⟨b1,b2⟩
theorem Ky{o1 o2:HO}:upd (upd (DL.cX (DL.cX H p) q) p o1) q o2=upd (upd H p o1) q o2:=by
  funext b;unfold upd DL.cX;by_cases e:b=q
  ·simp[e]
  · by_cases e2:b=p
    ·simp[e,e2]
    ·simp[e,e2]
theorem Kz{Fn:List Slot→eY}{t:Bool}{Q:VK}{E:XK}{w1 w2:List (List Key×V)}(b:Base F H)(HF:p≠q)(hF:F p=none)(hH:H p=some (.dT w1))(dv:bV K F ao w1)(G8:F q=none)(G9:H q=some (.dT w2))(Wb:bV K F yP w2)(hb:ip K F v C ws p)(hd:bz K F ds vs)(hn:2+ds.length=n)(e:Fn (.bb C ws ao::.bd yP::gf ds)=some (.sh (.bl t)))(k:∀H' F',aG F (DL.cX (DL.cX H p) q) F' H'→gJ K F' H' p ao→gJ K F' H' q yP→Q (.bl t) H')(o1 o2:Obj):spS K n Fn (v::.ref q::vs) (upd (upd H p (.gL o1 (.dT w1))) q (.gL o2 (.dT w2))) (fun x H'=>H' q=some (.gL o2 (.dT w2))∧(upd H' q (.dT w2)) p=some (.gL o1 (.dT w1))∧Q x (upd (upd H' q (.dT w2)) p (.dT w1))) E:=by
  have De:nV (.dT w1):=b.sR _ _ hH;have Fm:nV (.dT w2):=b.sR _ _ G9;have Rc:DL.cX (DL.cX H p) q p=none:=by rw[cF HF];exact bQ
  have gA:aG F (DL.cX (DL.cX H p) q) F (upd (DL.cX (DL.cX H p) q) p (.gL o1 (.dT w1))):=aG.own (dg (dg b hF) G8) Rc _ De rfl;have gB:=aG.own gA.base (p:=q) (show upd (DL.cX (DL.cX H p) q) p (.gL o1 (.dT w1)) q=none by rw[ai (dq HF)];exact bQ) (.gL o2 (.dT w2)) Fm rfl;have g2:=gA.trans gB;rw[Ky] at g2;have hP:(upd (upd H p (.gL o1 (.dT w1))) q (.gL o2 (.dT w2))) p=some (.gL o1 (.dT w1)):=by rw[ai HF,ax]
  have hQ:(upd (upd H p (.gL o1 (.dT w1))) q (.gL o2 (.dT w2))) q=some (.gL o2 (.dT w2)):=ax;generalize upd (upd H p (.gL o1 (.dT w1))) q (.gL o2 (.dT w2))=H2 at g2 hP hQ;refine⟨F,H2,_,_,?_,⟨aG.refl g2.base,by simp[gf,aJ hd],fun j s ej=>?_,fun j k' sj sk vj vk r Es ej ek oj ok hj hk h1 h2=>?_⟩,e,?_⟩
  ·rw[←hn,aJ hd,eT,eT];omega
  · match j,ej with
    |0,ej=>cases ej;exact⟨v,rfl,p,o1,w1,hb.mono g2.base.sub,hP,dv.mono g2.base.sub⟩
    |1,ej=>cases ej;exact⟨.ref q,rfl,q,o2,w2,rfl,hQ,Wb.mono g2.base.sub⟩
    |j+2,ej=>obtain⟨_,w,h1,h2⟩:=fO (E:=E) (H:=H2) (H₀:=H2) hd j s (by simpa using ej);exact⟨w,by simpa using h1,h2⟩
  · match j,ej with
    |0,ej=>cases ej;cases oj
    |1,ej=>cases ej;cases oj
    |j+2,ej=>obtain⟨o',_⟩:=fO (E:=E) (H:=H2) (H₀:=H2) hd j sj (by simpa using ej);rw[o'] at oj;cases oj
  ·intro v' H' F' g hv;rw[bu.mp hv];have a1:=g.ent _ _ hP;have a2:=g.ent _ _ hQ;have f1:F' p=none:=i7 (K:=K) g hF hP rfl;have f2:F' q=none:=i7 (K:=K) g G8 hQ rfl;have g3:=((g2.trans g).write (p:=q) (o:=.dT w2) bQ f2 Fm rfl).write (p:=p) (o:=.dT w1) Rc f1 De rfl;refine⟨a2,by rw[ai HF];exact a1,k _ F' g3 ⟨f1,w1,ax,dv.mono g.cz⟩ ⟨f2,w2,by rw[ai (dq HF),ax],Wb.mono g.cz⟩⟩
end
end DL
namespace sq
open PySem L2 DL NS
def top(i:Nat):Stmt:=PySem.Challenge.pw_fairbench_k52_whole_box.main.body.getD i (.Pass ⟨0,0,0,0⟩)
abbrev lu:Stmt:=top 10
abbrev vm:Stmt:=top 11
abbrev iH:Stmt:=top 12
abbrev iJ:Stmt:=top 13
abbrev gh:Stmt:=top 14
abbrev hW:Stmt:=top 15
abbrev jo:Stmt:=top 20
abbrev mR:Stmt:=top 21
abbrev ly:Stmt:=top 22
abbrev jq:Stmt:=top 23
abbrev sr:Stmt:=top 25
abbrev yQ:Stmt:=top 26
abbrev Dj:Stmt:=top 27
abbrev Dk:Stmt:=top 28
abbrev yR:Stmt:=top 29
abbrev yS:Stmt:=top 30
abbrev s_same:Stmt:=top 31
abbrev vn:Stmt:=top 32
abbrev yT:Stmt:=top 33
abbrev Dl:Stmt:=top 34
abbrev yU:Stmt:=top 36
abbrev yV:Stmt:=top 37
abbrev iT:Stmt:=top 38
abbrev kc:Stmt:=inClass (top 19) 3
abbrev ke:Stmt:=inClass (top 19) 4
abbrev aV:Stmt:=inClass (top 19) 1
abbrev aR:Stmt:=inClass (top 19) 2
structure vo where
  iU:Addr
  qE:Addr
  e9:Addr
  fc:Addr
  dU:Addr
  eG:Addr
  gi:Addr
  jS:Addr
  eJ:Addr
  dA:Addr
  hX:Addr
  t6:Addr
  yW:Addr
  yX:Addr
  t7:Addr
  t8:Addr
  jr:Addr
  qF:Addr
  t9:Addr
  yZ:Addr
  nD:Addr
  ua:Addr
  Fq:Addr
  kf:Addr
  og:Addr
  mS:Addr
  lA:Addr
  mU:Addr
  aE:Addr
structure UT (a:vo):Prop where
structure Txt (K:PySem.W.Frag) (mg:Str→fu) (a:vo):Prop where
  iU:mg "heaps_of"=some (.ref a.iU)
  qE:mg "rank"=some (.ref a.qE)
  e9:mg "check_count"=some (.ref a.e9)
  fc:mg "check_names"=some (.ref a.fc)
  dU:mg "check_ballots"=some (.ref a.dU)
  eG:mg "put_together"=some (.ref a.eG)
  gi:mg "check_roll"=some (.ref a.gi)
  jS:mg "is_word"=some (.ref a.jS)
  eJ:mg "names_in"=some (.ref a.eJ)
  dA:mg "check_many"=some (.ref a.dA)
  hX:mg "_law_cell_at"=some (.ref a.hX)
  t6:mg "_law_mixed"=some (.ref a.t6)
  yW:mg "_law_base"=some (.ref a.yW)
  yX:mg "_law_word"=some (.ref a.yX)
  t7:mg "_law_words"=some (.ref a.t7)
  t8:mg "_law_whole"=some (.ref a.t8)
  jr:mg "_law_same"=some (.ref a.jr)
  qF:mg "_law_before"=some (.ref a.qF)
  t9:mg "_law_heaps"=some (.ref a.t9)
  yZ:mg "_law_like"=some (.ref a.yZ)
  nD:mg "_law_right"=some (.ref a.nD)
  ua:mg "_law_moved"=some (.ref a.ua)
  Fq:mg "law"=some (.ref a.Fq)
  aE:mg "Box"=some (.ref a.aE)
  dG:vW K a.aE
  su:Mk K a.aE a.mU
  jt:iD K a.aE "lying"
  qG:iD K a.aE "words"
  qH:Meth K a.aE "count" a.kf
  qI:Meth K a.aE "heaps" a.og
  vp:Meth K a.aE "put" a.mS
  sV:Meth K a.aE "take" a.lA
  qJ:∃t,mg "MOST_NAMES"=some (.int 6 t)
  y0:∃t,mg "MOST_SIGNS"=some (.int 12 t)
  Hd:∃t,mg "LETTERS"=some (.str "abcdefghijklmnopqrstuvwxyz" t)
  UU:mg "all"=none
  vq:mg "bool"=none
  Fs:mg "int"=none
  bf:mg "isinstance"=none
  fP:mg "len"=none
  mV:mg "list"=none
  UW:mg "min"=none
  lB:mg "range"=none
  KC:mg "set"=none
  vt:mg "sorted"=none
  KD:mg "str"=none
  KG:mg "sum"=none
  lC:mg "tuple"=none
  UX:mg "zip"=none
section
variable {P:Program} {w:World} {K:PySem.W.Frag} {mg:Str→fu} {base:Heap} {f:Addr} {fd:FuncData} {a:vo}
theorem XW:(["names","together"]:dC).Nodup:=by decide +kernel
theorem UY:(["names","many"]:dC).Nodup:=by decide +kernel
theorem XX:(["sign"]:dC).Nodup:=by decide +kernel
theorem XY:(["_law_k","_law_names"]:dC).Nodup:=by decide +kernel
theorem XZ:(["_law_k","_law_roll","_law_words_here"]:dC).Nodup:=by decide +kernel
theorem X1:(["_law_number","_law_roll"]:dC).Nodup:=by decide +kernel
theorem UZ:(["names","many"]:dC).Nodup:=by decide +kernel
theorem fE:bq ["rows","names","many"] ["rows"] (aj gh):=⟨rfl,rfl,rfl,by decide +kernel,rfl,by decide +kernel,by decide +kernel⟩
def eQ:SF:=(iM (bF (ae yh (aB 2) (eC (.int 0)))) uO bS)
def gj:SF:=(bj (mJ (lS (eV 0)) (j7 2 (bY (aU true 1) (bY (aU true 2) j6))) eQ) (iM (bF (ae dF (iu Cg (ag (eL (fM 2 [] (lS (eV 0)) (j7 2 (bY (aU true 0) (bY (aU true 1) j6))) jN (eV 1))) aM)) (eC (.int 0)))) uO bS))
def dW:eZ→eY:=pD 3 [true] gj
theorem oY(F:lW K "check_ballots" "check_ballots" gh f fd)(T:Txt K mg a):cD P w K mg base mz 1 f fd ["rows"] (gG K [true] dW) :=
  dz F fE rfl (fun di A outer s H E z hr=>by
    have hu:=hr.units;exact(ah (g9 rfl (kR (bX 0)) (oQ rfl (de (bN 1 fE.nd) (de (bN 2 fE.nd) kU))) (au (cq (mI (aA 2) (DE.bo ak)) (au j9) aZ))) (au (cq (jP hu (DE.bo (bJ (Ac rfl) Jn rfl T.KG B9 (cC (DE.bo (DO.sh (nq rfl (tgs:=["names","many"]) (fi:=[]) (fJ.of rfl) (by decide) (kR (bX 0)) (fun _ _ _ _=>(oQ rfl (de (bN 0 UY) (de (bN 1 UY) kU)))) (fun _ _ _ _=>qh) (fun _ _ _ _=>(bX 1))))) aN))) (DE.bo ak)) (au j9) aZ))))
theorem sv:bq ["count"] ["count"] (aj iH):=⟨rfl,rfl,rfl,by decide +kernel,rfl,by decide +kernel,by decide +kernel⟩
def iK:SF:=(iM (iP (bF (ae yh (aB 0) (eC (.int 1)))) (bF (ae HC (aB 0) (eC (.int 6))))) uO bS)
def fe:eZ→eY:=pD 1 [true] iK
theorem sA(F:lW K "check_count" "check_count" iH f fd)(T:Txt K mg a):cD P w K mg base mz 1 f fd ["count"] (gG K [true] fe) :=
  dz F sv rfl (fun di A outer s H E z hr=>by
    have hu:=hr.units;exact(au (cq (DW.t (nW (mI (aA 0) (DE.bo ak)) (mG (uG (aA 0) (DE.bo (yA rfl T.qJ)))))) (au j9) aZ)))
theorem eK:bq ["count","rows","names","many","name"] ["count","rows"] (aj iJ):=⟨rfl,rfl,rfl,by decide +kernel,rfl,by decide +kernel,by decide +kernel⟩
def gn:SF:=(iM (iP (bF (ae yh (aB 4) (eC (.int 0)))) (bF (ae Xp (aB 4) (aB 0)))) uO bS)
def jT:SF:=(mJ (lS (eV 2)) (aU true 4) gn)
def tI:SF:=(mJ (lS (eV 1)) (j7 2 (bY (aU true 2) (bY (aU true 3) j6))) jT)
def fh:eZ→eY:=pD 5 [true,true] tI
theorem sC(F:lW K "check_names" "check_names" iJ f fd)(T:Txt K mg a):cD P w K mg base mz 1 f fd ["count","rows"] (gG K [true,true] fh) :=
  dz F eK rfl (fun di A outer s H E z hr=>by
    have hu:=hr.units;exact(au (g9 rfl (kR (bX 1)) (oQ rfl (de (bN 2 eK.nd) (de (bN 3 eK.nd) kU))) (au (g9 rfl (kR (bX 2)) (bN 4 eK.nd) (au (cq (DW.t (nW (mI (aA 4) (DE.bo ak)) (mG (Ut (aA 4) (aA 0))))) (au j9) aZ)))))))
theorem dh:bq ["rows","together","row","many","names"] ["rows"] (aj hW):=⟨rfl,rfl,rfl,by decide +kernel,rfl,by decide +kernel,by decide +kernel⟩
def dI:SF:=(iM (bF (ae HC (aB 3) (eC (.int 0)))) (bj (cy 4 (jk (eL (oW (aB 2))))) (yo 1 (aB 4) (ae fZ (yn 1 (aB 4) (eC (.int 0))) (aB 3)))) bS)
def hZ:SF:=(bj (Cv 1) (bj (mJ (lS (eV 0)) (j7 2 (bY (aU true 2) (bY (aU true 3) j6))) dI) (JS 1)))
def eM:eZ→eY:=pD 5 [true] hZ
theorem qK(F:lW K "put_together" "put_together" hW f fd)(T:Txt K mg a):cD P w K mg base mz 1 f fd ["rows"] (gG K [true] eM) :=
  dz F dh rfl (fun di A outer s H E z hr=>by
    have hu:=hr.units;exact(ah (JL (i:=1) dh.nd) (ah (g9 rfl (kR (bX 0)) (oQ rfl (de (bN 2 dh.nd) (de (bN 3 dh.nd) kU))) (au (cq (uG (aA 3) (DE.bo ak)) (ah (bT (i:=4) dh.nd (qg rfl rfl T.lC (DO.sh (Ax rfl rfl T.vt rfl T.KC (aA 2))))) (au (JN (nT hr) 1 (aA 4) (cW (DE.bo (JM (nT hr) 1 (aA 4) ak)) (aA 3))))) aZ))) (au (M6 1)))))
theorem He:bq ["names"] ["names"] (aj vm):=⟨rfl,rfl,rfl,by decide +kernel,rfl,by decide +kernel,by decide +kernel⟩
def A3:SF:=(dZ (oN (ag (iu dQ (ag (aB 0) aM)) (ag (eV 0) aM))))
def ju:eZ→eY:=pD 1 [true] A3
theorem Hf(F:lW K "rank" "rank" vm f fd)(T:Txt K mg a):cD P w K mg base mz 1 f fd ["names"] (gG K [true] ju) :=
  dz F He rfl (fun di A outer s H E z hr=>by
    have hu:=hr.units;exact(au (cE (uC (n:=2) (bw (bJ bt eu rfl T.fP dy (cC (aA 0) aN)) (bw (bX 0) aN))))))
theorem oh:bq ["count","rows","together"] ["count","rows"] (aj lu):=⟨rfl,rfl,rfl,by decide +kernel,rfl,by decide +kernel,by decide +kernel⟩
def lD:SF:=(bj (lN (bD fe (ag (eV 0) aM))) (bj (lN (bD fh (ag (eV 0) (ag (eV 1) aM)))) (bj (lN (bD dW (ag (eV 1) aM))) (bj (EZ 2 eM (ag (eV 1) aM)) (uI (fM 1 [2] (lS (eL (yz 2 ju))) (aU true 0) jN (oN (ag (eV 0) (ag (Aq 1 (aB 0)) aM)))))))))
def iV:eZ→eY:=pD 3 [true,true] lD
theorem wI(F:lW K "heaps_of" "heaps_of" lu f fd)(T:Txt K mg a)(qL:mF P w K mg base 1 a.dU ["rows"] (gG K [true] dW))(tJ:mF P w K mg base 1 a.e9 ["count"] (gG K [true] fe))(tK:mF P w K mg base 1 a.fc ["count","rows"] (gG K [true,true] fh))(sD:mF P w K mg base 1 a.eG ["rows"] (gG K [true] eM))(KJ:mF P w K mg base 1 a.qE ["names"] (gG K [true] ju)):cD P w K mg base mz 4 f fd ["count","rows"] (gG K [true,true] iV) :=
  dz F oh rfl (fun di A outer s H E z hr=>by
    have hu:=hr.units;exact(ah (qw (cg tJ (hr.mono (by decide)) rfl T.e9 (bw (bX 0) aN))) (ah (qw (cg tK (hr.mono (by decide)) rfl T.fc (bw (bX 0) (bw (bX 1) aN)))) (ah (qw (cg qL (hr.mono (by decide)) rfl T.dU (bw (bX 1) aN))) (ah (M7 (i:=2) oh.nd sD (hr.mono (by decide)) rfl T.eG (bw (bX 1) aN)) (au (yi (nq rfl (tgs:=["names"]) (fi:=[2]) (fJ.of rfl) (by decide) (kR (DO.sh (Kf 2 rfl (Nat.lt_of_le_of_lt (Nat.add_le_add_left (by decide:5≤64) _) hr.units) KJ (hr.mono (by decide)) rfl T.vt rfl T.qE))) (fun _ _ _ _=>(bN 0 XW)) (fun _ _ _ _=>qh) (fun _ _ _ _=>(uC (n:=2) (bw (bX 0) (bw (MZ (nT hr) 1 (aA 0)) aN))))))))))))
theorem y4:bq ["word"] ["word"] (aj mR):=⟨rfl,rfl,rfl,by decide +kernel,rfl,by decide +kernel,by decide +kernel⟩
def mW:SF:=(bj (iM (iP (jj (bF (mK "str" (aB 0)))) (iP (bF (ae yh (iu Kj (ag (aB 0) aM)) (eC (.int 1)))) (bF (ae HC (iu Kj (ag (aB 0) aM)) (eC (.int 12)))))) (dZ (eC (.bl false))) bS) (dZ (iu Nq (ag (eL (fM 1 [] (yC (aB 0)) (aU true 0) jN (ae (Rp false) (aB 0) (eC (.str "abcdefghijklmnopqrstuvwxyz"))))) aM))))
def jU:eZ→eY:=pD 1 [true] mW
theorem y7(F:lW K "is_word" "is_word" mR f fd)(T:Txt K mg a):cD P w K mg base mz 1 f fd ["word"] (gG K [true] jU) :=
  dz F y4 rfl (fun di A outer s H E z hr=>by
    have hu:=hr.units;exact(ah (cq (DW.t (nW (rV (fY (sd rfl T.bf T.KD (aA 0)))) (nW (mI (DE.bo (bJ pP Fg rfl T.fP dy (cC (aA 0) aN))) (DE.bo ak)) (mG (uG (DE.bo (bJ pP Fg rfl T.fP dy (cC (aA 0) aN))) (DE.bo (yA rfl T.y0))))))) (au (cE sS)) aZ) (au (cE (bJ (G0 rfl) Ru rfl T.UU RH (cC (DE.bo (DO.sh (nq rfl (tgs:=["sign"]) (fi:=[]) (fJ.of rfl) (by decide) (Rw (aA 0)) (fun _ _ _ _=>(bN 0 XX)) (fun _ _ _ _=>qh) (fun _ _ _ _=>(Rr (aA 0) (DE.bo (NF rfl T.Hd))))))) aN))))))
theorem lP:bq ["words","word"] ["words"] (aj jo):=⟨rfl,rfl,rfl,by decide +kernel,rfl,by decide +kernel,by decide +kernel⟩
def ia:SF:=(iM (jj (bF (bD jU (ag (eV 1) aM)))) uO bS)
def jv:SF:=(bj (iM (iP (bF (ae yh (iu dQ (ag (aB 0) aM)) (eC (.int 1)))) (bF (ae HC (iu dQ (ag (aB 0) aM)) (eC (.int 6))))) uO bS) (bj (mJ (Jr 0) (aU false 1) ia) (iM (bF (ae yh (yO (aB 0)) (iu dQ (ag (aB 0) aM)))) uO bS)))
def gp:eZ→eY:=pD 2 [false] jv
theorem tL(F:lW K "check_roll" "check_roll" jo f fd)(T:Txt K mg a)(A4:mF P w K mg base 1 a.jS ["word"] (gG K [true] jU)):cD P w K mg base mz 2 f fd ["words"] (gG K [false] gp) :=
  dz F lP rfl (fun di A outer s H E z hr=>by
    have hu:=hr.units;exact(ah (cq (DW.t (nW (mI (DE.bo (bJ bt eu rfl T.fP dy (cC (aA 0) aN))) (DE.bo ak)) (mG (uG (DE.bo (bJ bt eu rfl T.fP dy (cC (aA 0) aN))) (DE.bo (yA rfl T.qJ)))))) (au j9) aZ) (ah (g9 rfl (Pl 0) (bN 1 lP.nd) (au (cq (rV (fY (cg A4 (hr.mono (by decide)) rfl T.jS (bw (bX 1) aN)))) (au j9) aZ))) (au (cq (mI (DE.bo (Kv rfl rfl T.fP rfl T.KC (aA 0))) (DE.bo (bJ bt eu rfl T.fP dy (cC (aA 0) aN)))) (au j9) aZ)))))
theorem kg:bq ["words","text","names","word"] ["words","text"] (aj ly):=⟨rfl,rfl,rfl,by decide +kernel,rfl,by decide +kernel,by decide +kernel⟩
def jw:SF:=(bj (iM (bF (ae (inD true) (aB 3) (aB 0))) uO bS) (ic 2 (ae u6 (aB 0) (aB 3))))
def lE:SF:=(bj (nY 2 (uD aM)) (bj (iM (bF (ae lT (aB 1) (eC (.str "")))) (mJ (lS (eL (u3 (aB 1) (eC (.str " "))))) (aU true 3) jw) bS) (dZ (jk (eL (oW (aB 2)))))))
def eN:eZ→eY:=pD 4 [false,true] lE
theorem wJ(F:lW K "names_in" "names_in" ly f fd)(T:Txt K mg a):cD P w K mg base mz 1 f fd ["words","text"] (gG K [false,true] eN) :=
  dz F kg rfl (fun di A outer s H E z hr=>by
    have hu:=hr.units;exact(ah (qi (i:=2) kg.nd (oO (n:=0) aN)) (ah (cq (uM hu (aA 1) (DE.bo rT)) (au (g9 rfl (kR (DO.sh (Ki (aA 1) (DE.bo rT)))) (bN 3 kg.nd) (ah (cq (QR (aA 3) (aA 0)) (au j9) aZ) (au (nr 2 (Kl (aA 0) (aA 3))))))) aZ) (au (cE (qg rfl rfl T.lC (DO.sh (Ax rfl rfl T.vt rfl T.KC (aA 2)))))))))
theorem tM:bq ["many"] ["many"] (aj jq):=⟨rfl,rfl,rfl,by decide +kernel,rfl,by decide +kernel,by decide +kernel⟩
def jx:SF:=(iM (iP (jj (bF (mK "int" (aB 0)))) (iP (bF (mK "bool" (aB 0))) (bF (ae yh (aB 0) (eC (.int 1)))))) uO bS)
def dB:eZ→eY:=pD 1 [true] jx
theorem tN(F:lW K "check_many" "check_many" jq f fd)(T:Txt K mg a):cD P w K mg base mz 1 f fd ["many"] (gG K [true] dB) :=
  dz F tM rfl (fun di A outer s H E z hr=>by
    have hu:=hr.units;exact(au (cq (DW.t (nW (rV (fY (nu rfl T.bf T.Fs (aA 0)))) (nW (fY (jl rfl T.bf T.vq (aA 0))) (mG (mI (aA 0) (DE.bo ak)))))) (au j9) aZ)))
theorem Dm:bq ["_law_script","_law_k"] ["_law_script","_law_k"] (aj sr):=⟨rfl,rfl,rfl,by decide +kernel,rfl,by decide +kernel,by decide +kernel⟩
def sE:SF:=(bj (iM (bF (ae yh (aB 1) (iu dQ (ag (aB 0) aM)))) (dZ (ae iQ (eV 0) (aB 1))) bS) (dZ (eC (.int 0))))
def cY:eZ→eY:=pD 2 [true,true] sE
theorem Dn(F:lW K "_law_cell_at" "_law_cell_at" sr f fd)(T:Txt K mg a):cD P w K mg base mz 1 f fd ["_law_script","_law_k"] (gG K [true,true] cY) :=
  dz F Dm rfl (fun di A outer s H E z hr=>by
    have hu:=hr.units;exact(ah (cq (mI (aA 1) (DE.bo (bJ bt eu rfl T.fP dy (cC (aA 0) aN)))) (au (cE (EH (bX 0) (aA 1)))) aZ) (au (cE ak))))
theorem ix:bq ["_law_cell","_law_many","_law_found","_law_number","_law_k"] ["_law_cell","_law_many"] (aj yQ):=⟨rfl,rfl,rfl,by decide +kernel,rfl,by decide +kernel,by decide +kernel⟩
def nE:SF:=(bj (ic 2 (ae cL (aB 3) (eC (.int 5040)))) (cy 3 (ae Ai (aB 3) (eC (.int 5040)))))
def nF:SF:=(bj (cy 3 (ae cL (ae fZ (ae fZ (ae fZ (ae wz (aB 3) (aB 3)) (ae wz (eC (.int 48271)) (aB 3))) (aB 4)) (eC (.int 1))) (eC (.int 2147483647)))) (ic 2 (eV 3)))
def qM:SF:=(bj (nY 2 (uD aM)) (bj (cy 3 (ae Ai (aB 0) (eC (.int 2)))) (bj (iM (bF (ae dF (ae cL (aB 0) (eC (.int 2))) (eC (.int 1)))) (bj (mJ (dE (aB 1)) (aU true 4) nE) (xl 2)) bS) (bj (cy 3 (ae cL (ae fZ (ae wz (ae cL (aB 3) (eC (.int 2147483647))) (eC (.int 16807))) (eC (.int 11))) (eC (.int 2147483647)))) (bj (mJ (dE (aB 1)) (aU true 4) nF) (xl 2))))))
def qN:eZ→eY:=pD 5 [true,true] qM
theorem KL(F:lW K "_law_mixed" "_law_mixed" yQ f fd)(T:Txt K mg a):cD P w K mg base mz 1 f fd ["_law_cell","_law_many"] (gG K [true,true] qN) :=
  dz F ix rfl (fun di A outer s H E z hr=>by
    have hu:=hr.units;exact(ah (qi (i:=2) ix.nd (oO (n:=0) aN)) (ah (bT (i:=3) ix.nd (rZ (aA 0) (DE.bo ak))) (ah (cq (jP hu (DE.bo (cx (aA 0) (DE.bo ak))) (DE.bo ak)) (ah (g9 rfl (gZ rfl T.lB (aA 1)) (bN 4 ix.nd) (ah (nr 2 (cx (aA 3) (DE.bo ak))) (au (bT (i:=3) ix.nd (rZ (aA 3) (DE.bo ak)))))) (au (tV 2))) aZ) (ah (bT (i:=3) ix.nd (cx (DE.bo (cW (DE.bo (oP (DE.bo (cx (aA 3) (DE.bo ak))) (DE.bo ak))) (DE.bo ak))) (DE.bo ak))) (ah (g9 rfl (gZ rfl T.lB (aA 1)) (bN 4 ix.nd) (ah (bT (i:=3) ix.nd (cx (DE.bo (cW (DE.bo (cW (DE.bo (cW (DE.bo (oP (aA 3) (aA 3))) (DE.bo (oP (DE.bo ak) (aA 3))))) (aA 4))) (DE.bo ak))) (DE.bo ak))) (au (nr 2 (bX 3))))) (au (tV 2))))))))
theorem jV:bq ["_law_cell","_law_size","_law_found","_law_rest","_law_k"] ["_law_cell","_law_size"] (aj Dj):=⟨rfl,rfl,rfl,by decide +kernel,rfl,by decide +kernel,by decide +kernel⟩
def iy:SF:=(bj (iM (bF (ae dF (ae cL (aB 0) (eC (.int 2))) (eC (.int 0)))) (cy 3 (ae cL (ae fZ (ae fZ (ae fZ (ae wz (aB 3) (aB 3)) (ae wz (eC (.int 48271)) (aB 3))) (aB 4)) (eC (.int 1))) (eC (.int 2147483647)))) bS) (bj (cy 2 (ae AG (aB 2) (ae Nj (eC (.str "abcdefghijklmnopqrstuvwxyz")) (ae cL (aB 3) (eC (.int 26)))))) (iM (bF (ae dF (ae cL (aB 0) (eC (.int 2))) (eC (.int 1)))) (cy 3 (ae Ai (aB 3) (eC (.int 26)))) bS)))
def Dp:SF:=(bj (cy 2 (eC (.str ""))) (bj (cy 3 (ae Ai (aB 0) (eC (.int 2)))) (bj (iM (bF (ae dF (ae cL (aB 0) (eC (.int 2))) (eC (.int 0)))) (cy 3 (ae cL (ae fZ (ae wz (ae cL (aB 3) (eC (.int 2147483647))) (eC (.int 16807))) (eC (.int 11))) (eC (.int 2147483647)))) bS) (bj (mJ (dE (aB 1)) (aU true 4) iy) (dZ (eV 2))))))
def vw:eZ→eY:=pD 5 [true,true] Dp
theorem NH(F:lW K "_law_base" "_law_base" Dj f fd)(T:Txt K mg a):cD P w K mg base mz 1 f fd ["_law_cell","_law_size"] (gG K [true,true] vw) :=
  dz F jV rfl (fun di A outer s H E z hr=>by
    have hu:=hr.units;exact(ah (bT (i:=2) jV.nd rT) (ah (bT (i:=3) jV.nd (rZ (aA 0) (DE.bo ak))) (ah (cq (jP hu (DE.bo (cx (aA 0) (DE.bo ak))) (DE.bo ak)) (au (bT (i:=3) jV.nd (cx (DE.bo (cW (DE.bo (oP (DE.bo (cx (aA 3) (DE.bo ak))) (DE.bo ak))) (DE.bo ak))) (DE.bo ak)))) aZ) (ah (g9 rfl (gZ rfl T.lB (aA 1)) (bN 4 jV.nd) (ah (cq (jP hu (DE.bo (cx (aA 0) (DE.bo ak))) (DE.bo ak)) (au (bT (i:=3) jV.nd (cx (DE.bo (cW (DE.bo (cW (DE.bo (cW (DE.bo (oP (aA 3) (aA 3))) (DE.bo (oP (DE.bo ak) (aA 3))))) (aA 4))) (DE.bo ak))) (DE.bo ak)))) aZ) (ah (bT (i:=2) jV.nd (yB (aA 2) (DE.bo (CQ (DE.bo rT) (DE.bo (cx (aA 3) (DE.bo ak))))))) (au (cq (jP hu (DE.bo (cx (aA 0) (DE.bo ak))) (DE.bo ak)) (au (bT (i:=3) jV.nd (rZ (aA 3) (DE.bo ak)))) aZ))))) (au (cE (bX 2))))))))
theorem y8:bq ["_law_base_here","_law_place","_law_size","_law_k","_law_letters","_law_other"] ["_law_base_here","_law_place","_law_size","_law_k"] (aj Dk):=⟨rfl,rfl,rfl,by decide +kernel,rfl,by decide +kernel,by decide +kernel⟩
def Dq:SF:=(bj (cy 4 (eC (.str "abcdefghijklmnopqrstuvwxyz"))) (bj (cy 5 (ae Nj (aB 4) (ae cL (ae fZ (ae findD (aB 4) (ae Nj (aB 0) (aB 1))) (ae wz (eC (.int 3)) (aB 3))) (eC (.int 26))))) (dZ (ae AG (ae AG (CT (aB 0) Ag (gM (aB 1))) (aB 5)) (CT (aB 0) (gM (ae fZ (aB 1) (eC (.int 1)))) (gM (aB 2)))))))
def y9:eZ→eY:=pD 6 [true,true,true,true] Dq
theorem NJ(F:lW K "_law_word" "_law_word" Dk f fd)(T:Txt K mg a):cD P w K mg base mz 1 f fd ["_law_base_here","_law_place","_law_size","_law_k"] (gG K [true,true,true,true] y9) :=
  dz F y8 rfl (fun di A outer s H E z hr=>by
    have hu:=hr.units;exact(ah (bT (i:=4) y8.nd rT) (ah (bT (i:=5) y8.nd (CQ (aA 4) (DE.bo (cx (DE.bo (cW (DE.bo (Nk (aA 4) (DE.bo (CQ (aA 0) (aA 1))))) (DE.bo (oP (DE.bo ak) (aA 3))))) (DE.bo ak))))) (au (cE (yB (DE.bo (yB (DE.bo (CV (aA 0) EI (jM (aA 1)))) (aA 5))) (DE.bo (CV (aA 0) (jM (DE.bo (cW (aA 1) (DE.bo ak)))) (jM (aA 2))))))))))
theorem iz:bq ["_law_script","_law_at","_law_many","_law_cell","_law_size","_law_base_here","_law_words_here","_law_k","_law_word_here"] ["_law_script","_law_at","_law_many"] (aj yR):=⟨rfl,rfl,rfl,by decide +kernel,rfl,by decide +kernel,by decide +kernel⟩
def sF:SF:=(bj (cy 8 (bD y9 (ag (eV 5) (ag (ae cL (ae Ai (aB 3) (eC (.int 48))) (aB 4)) (ag (eV 4) (ag (eV 7) aM)))))) (bj (iM (bF (ae dF (ae cL (ae Ai (aB 3) (eC (.int 12))) (eC (.int 4))) (eC (.int 1)))) (cy 8 (CT (aB 5) Ag (gM (ae fZ (aB 7) (eC (.int 1)))))) bS) (ic 6 (eV 8))))
def za:SF:=(bj (cy 3 (bD cY (ag (eV 0) (ag (eV 1) aM)))) (bj (cy 4 (ae fZ (eC (.int 1)) (ae cL (aB 3) (eC (.int 12))))) (bj (cy 5 (bD vw (ag (bD cY (ag (eV 0) (ag (ae fZ (aB 1) (eC (.int 1))) aM))) (ag (eC (.int 12)) aM)))) (bj (nY 6 (uD aM)) (bj (mJ (dE (aB 2)) (aU true 7) sF) (xl 6))))))
def ub:eZ→eY:=pD 9 [true,true,true] za
theorem KN(F:lW K "_law_words" "_law_words" yR f fd)(T:Txt K mg a)(RJ:mF P w K mg base 1 a.yW ["_law_cell","_law_size"] (gG K [true,true] vw))(nG:mF P w K mg base 1 a.hX ["_law_script","_law_k"] (gG K [true,true] cY))(RK:mF P w K mg base 1 a.yX ["_law_base_here","_law_place","_law_size","_law_k"] (gG K [true,true,true,true] y9)):cD P w K mg base mz 2 f fd ["_law_script","_law_at","_law_many"] (gG K [true,true,true] ub) :=
  dz F iz rfl (fun di A outer s H E z hr=>by
    have hu:=hr.units;exact(ah (bT (i:=3) iz.nd (cg nG (hr.mono (by decide)) rfl T.hX (bw (bX 0) (bw (bX 1) aN)))) (ah (bT (i:=4) iz.nd (cW (DE.bo ak) (DE.bo (cx (aA 3) (DE.bo ak))))) (ah (bT (i:=5) iz.nd (cg RJ (hr.mono (by decide)) rfl T.yW (bw (cg nG (hr.mono (by decide)) rfl T.hX (bw (bX 0) (bw (cW (aA 1) (DE.bo ak)) aN))) (bw ak aN)))) (ah (qi (i:=6) iz.nd (oO (n:=0) aN)) (ah (g9 rfl (gZ rfl T.lB (aA 2)) (bN 7 iz.nd) (ah (bT (i:=8) iz.nd (cg RK (hr.mono (by decide)) rfl T.yX (bw (bX 5) (bw (cx (DE.bo (rZ (aA 3) (DE.bo ak))) (aA 4)) (bw (bX 4) (bw (bX 7) aN)))))) (ah (cq (jP hu (DE.bo (cx (DE.bo (rZ (aA 3) (DE.bo ak))) (DE.bo ak))) (DE.bo ak)) (au (bT (i:=8) iz.nd (CV (aA 5) EI (jM (DE.bo (cW (aA 7) (DE.bo ak))))))) aZ) (au (nr 6 (bX 8)))))) (au (tV 6))))))))
theorem KP:bq ["_law_found"] ["_law_found"] (aj yS):=⟨rfl,rfl,rfl,by decide +kernel,rfl,by decide +kernel,by decide +kernel⟩
def NK:SF:=(dZ (yg (mK "int" (aB 0)) (Jl (mK "bool" (aB 0)))))
def qO:eZ→eY:=pD 1 [true] NK
theorem KQ(F:lW K "_law_whole" "_law_whole" yS f fd)(T:Txt K mg a):cD P w K mg base mz 1 f fd ["_law_found"] (gG K [true] qO) :=
  dz F KP rfl (fun di A outer s H E z hr=>by
    have hu:=hr.units;exact(au (cE (rX (nu rfl T.bf T.Fs (aA 0)) (uz (Jm (jl rfl T.bf T.vq (aA 0))))))))
theorem Ft:bq ["_law_found","_law_due","_law_k"] ["_law_found","_law_due"] (aj s_same):=⟨rfl,rfl,rfl,by decide +kernel,rfl,by decide +kernel,by decide +kernel⟩
def vx(Fr:eZ→eY):SF:=(iM (jj (bF (bD Fr (ag (ae iQ (aB 0) (aB 2)) (ag (ae iQ (aB 1) (aB 2)) aM))))) (dZ (eC (.bl false))) bS)
def g_same(Fr:eZ→eY):SF:=(bj (iM (iP (bF (mK "tuple" (aB 1))) (bF (mK "list" (aB 1)))) (bj (iM (iP (bF (ae lT (mK "tuple" (aB 0)) (mK "tuple" (aB 1)))) (bF (ae lT (mK "list" (aB 0)) (mK "list" (aB 1))))) (dZ (eC (.bl false))) bS) (bj (iM (bF (ae lT (iu dQ (ag (aB 0) aM)) (iu dQ (ag (aB 1) aM)))) (dZ (eC (.bl false))) bS) (bj (mJ (dE (iu dQ (ag (aB 1) aM))) (aU true 2) (vx Fr)) (dZ (eC (.bl true)))))) bS) (bj (iM (bF (mK "bool" (aB 1))) (dZ (yg (mK "bool" (aB 0)) (ae dF (aB 0) (aB 1)))) bS) (bj (iM (bF (mK "int" (aB 1))) (dZ (yg (mK "int" (aB 0)) (yg (Jl (mK "bool" (aB 0))) (ae dF (aB 0) (aB 1))))) bS) (bj (iM (bF (mK "str" (aB 1))) (dZ (yg (mK "str" (aB 0)) (ae dF (aB 0) (aB 1)))) bS) (dZ (yg (ae EK (aB 1) (eC .non)) (ae EK (aB 0) (eC .non))))))))
def dJ:Nat→eZ→eY
  |0=>fun _=>none
  |n+1=>pD 3 [false,false] (g_same (dJ n))
theorem step_same{Fr:eZ→eY}(F:lW K "_law_same" "_law_same" s_same f fd)(T:Txt K mg a)(Cr:mF P w K mg base k a.jr ["_law_found","_law_due"] (gG K [false,false] Fr)):cD P w K mg base mz (k+1) f fd ["_law_found","_law_due"] (gG K [false,false] (pD 3 [false,false] (g_same Fr))) :=
  dz F Ft rfl (fun di A outer s H E z hr=>by
    have hu:=hr.units;exact(ah (cq (DW.t (nW (fY (mL rfl T.bf T.lC (aA 1))) (mG (fY (oS rfl T.bf T.mV (aA 1)))))) (ah (cq (DW.t (nW (uM hu (DE.bo (mL rfl T.bf T.lC (aA 0))) (DE.bo (mL rfl T.bf T.lC (aA 1)))) (mG (uM hu (DE.bo (oS rfl T.bf T.mV (aA 0))) (DE.bo (oS rfl T.bf T.mV (aA 1))))))) (au (cE sS)) aZ) (ah (cq (uM hu (DE.bo (bJ bt eu rfl T.fP dy (cC (aA 0) aN))) (DE.bo (bJ bt eu rfl T.fP dy (cC (aA 1) aN)))) (au (cE sS)) aZ) (ah (g9 rfl (gZ rfl T.lB (DE.bo (bJ bt eu rfl T.fP dy (cC (aA 1) aN)))) (bN 2 Ft.nd) (au (cq (rV (fY (cg Cr hr rfl T.jr (cC (iL (aA 0) (aA 2)) (cC (iL (aA 1) (aA 2)) aN))))) (au (cE sS)) aZ))) (au (cE sS))))) aZ) (ah (cq (fY (jl rfl T.bf T.vq (aA 1))) (au (cE (rX (jl rfl T.bf T.vq (aA 0)) (uz (Jz hu (aA 0) (aA 1)))))) aZ) (ah (cq (fY (nu rfl T.bf T.Fs (aA 1))) (au (cE (rX (nu rfl T.bf T.Fs (aA 0)) (rX (Jm (jl rfl T.bf T.vq (aA 0))) (uz (Jz hu (aA 0) (aA 1))))))) aZ) (ah (cq (fY (sd rfl T.bf T.KD (aA 1))) (au (cE (rX (sd rfl T.bf T.KD (aA 0)) (uz (Jz hu (aA 0) (aA 1)))))) aZ) (au (cE (rX (Jo (aA 1) (DE.bo Jj)) (uz (Jo (aA 0) (DE.bo Jj)))))))))))
theorem A5(F:lW K "_law_same" "_law_same" s_same a.jr fd)(T:Txt K mg a)(b:Binds K fd ["_law_found","_law_due"] [])(kp:keepIn K (.ref a.jr)=true):∀n,mF P w K mg base (1+n) a.jr ["_law_found","_law_due"] (gG K [false,false] (dJ n))
  |0=>⟨fd,Xv,b,kp⟩
  |n+1=>⟨fd,step_same F T  (A5 F T b kp  n),b,kp⟩
theorem sG:bq ["_law_one","_law_two","_law_left","_law_right_here"] ["_law_one","_law_two"] (aj vn):=⟨rfl,rfl,rfl,by decide +kernel,rfl,by decide +kernel,by decide +kernel⟩
def dM:SF:=(iM (bF (ae lT (aB 2) (aB 3))) (dZ (ae yh (aB 2) (aB 3))) bS)
def vy:SF:=(bj (iM (bF (ae lT (iu dQ (ag (aB 0) aM)) (iu dQ (ag (aB 1) aM)))) (dZ (ae yh (iu dQ (ag (aB 0) aM)) (iu dQ (ag (aB 1) aM)))) bS) (bj (mJ (Rk (eV 0) (eV 1)) (j7 2 (bY (aU true 2) (bY (aU true 3) j6))) dM) (dZ (eC (.bl false)))))
def qP:eZ→eY:=pD 4 [true,true] vy
theorem Hg(F:lW K "_law_before" "_law_before" vn f fd)(T:Txt K mg a):cD P w K mg base mz 1 f fd ["_law_one","_law_two"] (gG K [true,true] qP) :=
  dz F sG rfl (fun di A outer s H E z hr=>by
    have hu:=hr.units;exact(ah (cq (uM hu (DE.bo (bJ bt eu rfl T.fP dy (cC (aA 0) aN))) (DE.bo (bJ bt eu rfl T.fP dy (cC (aA 1) aN)))) (au (cE (Pj (DE.bo (bJ bt eu rfl T.fP dy (cC (aA 0) aN))) (DE.bo (bJ bt eu rfl T.fP dy (cC (aA 1) aN)))))) aZ) (ah (g9 rfl (Rl rfl T.UX (bX 0) (bX 1)) (oQ rfl (de (bN 2 sG.nd) (de (bN 3 sG.nd) kU))) (au (cq (uM hu (aA 2) (aA 3)) (au (cE (Pj (aA 2) (aA 3)))) aZ))) (au (cE sS)))))
theorem jy:bq ["_law_rows","_law_found","_law_names","_law_many","_law_like_here","_law_at"] ["_law_rows"] (aj yT):=⟨rfl,rfl,rfl,by decide +kernel,rfl,by decide +kernel,by decide +kernel⟩
def nH:SF:=(cy 5 (ae fZ (aB 5) (eC (.int 1))))
def nI:TF:=(eX (bF (ae yh (aB 5) (iu dQ (ag (aB 1) aM)))) (bF (bD qP (ag (ae iQ (eI (ae iQ (aB 1) (aB 5))) (eC (.int 0))) (ag (eV 4) aM)))))
def nJ:SF:=(bj (cy 4 (jk (eL (fM 1 [2] (dE (eC (.int 6))) (aU true 0) (bF (ae (inD false) (aB 0) (aB 1))) (eV 0))))) (bj (cy 5 (eC (.int 0))) (bj (Jt 100 nI nH) (iM (eX (bF (ae HC (aB 3) (eC (.int 0)))) (eX (bF (ae yh (aB 5) (iu dQ (ag (aB 1) aM)))) (bF (ae dF (ae iQ (ae iQ (aB 1) (aB 5)) (eC (.int 0))) (aB 4))))) (M0 1 (aB 5) (oN (ag (eV 4) (ag (ae fZ (ae iQ (ae iQ (aB 1) (aB 5)) (eC (.int 1))) (aB 3)) aM)))) (iM (bF (ae HC (aB 3) (eC (.int 0)))) (qy 1 (eV 5) (oN (ag (eV 4) (ag (eV 3) aM)))) bS)))))
def zb:SF:=(bj (nY 1 (uD aM)) (bj (mJ (Jr 0) (j7 2 (bY (aU false 2) (bY (aU false 3) j6))) nJ) (xl 1)))
def uc:eZ→eY:=pD 6 [false] zb
theorem KR(F:lW K "_law_heaps" "_law_heaps" yT f fd)(T:Txt K mg a)(KS:mF P w K mg base 1 a.qF ["_law_one","_law_two"] (gG K [true,true] qP)):cD P w K mg base mz 2 f fd ["_law_rows"] (gG K [false] uc) :=
  dz F jy rfl (fun di A outer s H E z hr=>by
    have hu:=hr.units;exact(ah (qi (i:=1) jy.nd (oO (n:=0) aN)) (ah (g9 rfl (Pl 0) (oQ rfl (de (bN 2 jy.nd) (de (bN 3 jy.nd) kU))) (ah (bT (i:=4) jy.nd (qg rfl rfl T.lC (DO.sh (nq rfl (tgs:=["_law_k"]) (fi:=[2]) (fJ.of rfl) (by decide) (gZ rfl T.lB (DE.bo ak)) (fun _ _ _ _=>(bN 0 XY)) (fun _ _ _ _=>(ER (Pk (aA 0) (aA 1)))) (fun _ _ _ _=>(bX 0)))))) (ah (bT (i:=5) jy.nd ak) (ah (Ju 100 (DW.t (rW (mI (aA 5) (DE.bo (bJ bt eu rfl T.fP dy (cC (aA 1) aN)))) (qd (fY (cg KS (hr.mono (by decide)) rfl T.qF (bw (EH (DB.im (iL (aA 1) (aA 5))) (DE.bo ak)) (bw (bX 4) aN))))))) (au (bT (i:=5) jy.nd (cW (aA 5) (DE.bo ak))))) (au (cq (DW.t (rW (uG (aA 3) (DE.bo ak)) (rW (mI (aA 5) (DE.bo (bJ bt eu rfl T.fP dy (cC (aA 1) aN)))) (qd (jP hu (iL (iL (aA 1) (aA 5)) (DE.bo ak)) (aA 4)))))) (au (Q6 1 (aA 5) (uC (n:=2) (bw (bX 4) (bw (cW (iL (iL (aA 1) (aA 5)) (DE.bo ak)) (aA 3)) aN))))) (au (cq (uG (aA 3) (DE.bo ak)) (au (GY 1 (bX 5) (uC (n:=2) (bw (bX 4) (bw (bX 3) aN))))) aZ)))))))) (au (tV 1)))))
theorem NM:bq ["_law_roll","_law_words_here"] ["_law_roll","_law_words_here"] (aj Dl):=⟨rfl,rfl,rfl,by decide +kernel,rfl,by decide +kernel,by decide +kernel⟩
def Dr:SF:=(dZ (jk (eL (fM 1 [0,1] (dE (iu dQ (ag (aB 0) aM))) (aU true 0) (bF (ae (inD false) (ae iQ (aB 1) (aB 0)) (aB 2))) (eV 0)))))
def vz:eZ→eY:=pD 2 [true,true] Dr
theorem NP(F:lW K "_law_like" "_law_like" Dl f fd)(T:Txt K mg a):cD P w K mg base mz 1 f fd ["_law_roll","_law_words_here"] (gG K [true,true] vz) :=
  dz F NM rfl (fun di A outer s H E z hr=>by
    have hu:=hr.units;exact(au (cE (qg rfl rfl T.lC (DO.sh (nq rfl (tgs:=["_law_k"]) (fi:=[0,1]) (fJ.of rfl) (by decide) (gZ rfl T.lB (DE.bo (bJ bt eu rfl T.fP dy (cC (aA 0) aN)))) (fun _ _ _ _=>(bN 0 XZ)) (fun _ _ _ _=>(ER (Pk (iL (aA 1) (aA 0)) (aA 2)))) (fun _ _ _ _=>(bX 0))))))))
theorem vA:bq ["self"] ["self"] (aj kc):=⟨rfl,rfl,rfl,by decide +kernel,rfl,by decide +kernel,by decide +kernel⟩
def kh(a:vo):SF:=(dZ (Fi (V8 a.aE 0)))
def bZ(a:vo):List Slot→eY:=Bw 1 [] (kh a)
theorem vC(F:lW K "count" "Box.count" kc f fd)(T:Txt K mg a):cD P w K mg base (CP P w) 1 f fd ["self"] (spS K 1 (bZ a)) :=
  t4 F vA (fun di A outer s H E F₀ H₀ hr=>by
    have hu:=hr.units;exact(au (cE (Dd rfl rfl T.KG (UJ 0 T.dG T.jt)))))
theorem vD:bq ["self"] ["self"] (aj ke):=⟨rfl,rfl,rfl,by decide +kernel,rfl,by decide +kernel,by decide +kernel⟩
def ki(a:vo):SF:=(bj (iM (bF (ae dF (Nx a.aE 0 (bZ a)) (eC (.int 0)))) (uI (uD aM)) bS) (uI (EE iV (ag (iu dQ (ag (mQ a.aE 0) aM)) (ag (eL (fM 2 [] (yJ (V9 a.aE 0)) (j7 2 (bY (aU true 0) (bY (aU true 1) j6))) jN (oN (ag (eL (xi (eV 0))) (ag (eV 1) aM))))) aM)))))
def cK(a:vo):List Slot→eY:=Bw 1 [] (ki a)
theorem vF(F:lW K "heaps" "Box.heaps" ke f fd)(T:Txt K mg a)(kj:AF P w K mg base 1 a.kf ["self"] (spS K 1 (bZ a)))(zc:mF P w K mg base 4 a.iU ["count","rows"] (gG K [true,true] iV)):cD P w K mg base (CP P w) 5 f fd ["self"] (spS K 1 (cK a)) :=
  t4 F vD (fun di A outer s H E F₀ H₀ hr=>by
    have hu:=hr.units;exact(ah (cq (jP hu (DE.bo (Pw 0 T.dG T.qH kj (hr.mono (by decide)))) (DE.bo ak)) (au (yi (oO (n:=0) aN))) aZ) (au (yi (MJ zc (hr.mono (by decide)) rfl T.iU (bw (bJ bt eu rfl T.fP dy (cC (vd 0 T.dG T.qG) aN)) (bw (DO.sh (nq rfl (tgs:=["names","many"]) (fi:=[]) (fJ.of rfl) (by decide) (Ks (UL 0 T.dG T.jt)) (fun _ _ _ _=>(oQ rfl (de (bN 0 UZ) (de (bN 1 UZ) kU)))) (fun _ _ _ _=>qh) (fun _ _ _ _=>(uC (n:=2) (bw (DO.sh (EG rfl rfl T.mV (bX 0))) (bw (bX 1) aN)))))) aN)))))))
theorem qQ:bq ["_law_box","_law_kept","_law_first","_law_due","_law_many","_law_found"] ["_law_box","_law_kept","_law_first"] (aj yU):=⟨rfl,rfl,rfl,by decide +kernel,rfl,by decide +kernel,by decide +kernel⟩
def zf(a:vo):SF:=(bj (cy 3 (bD uc (ag (eL (yM (Pt 1))) aM))) (bj (iM (bF (eV 2)) (bj (nY 5 (Px a.aE 0 (cK a))) (bj (iM (jj (bF (bD (dJ 6) (ag (aB 5) (ag (aB 3) aM))))) (dZ (eC (.bl false))) bS) (Cq 5))) bS) (bj (cy 4 (Nx a.aE 0 (bZ a))) (bj (iM (iP (jj (bF (bD qO (ag (eV 4) aM)))) (bF (ae lT (aB 4) (iu Cg (ag (eL (sf (Pt 1))) aM))))) (dZ (eC (.bl false))) bS) (dZ (bD (dJ 6) (ag (eL (Px a.aE 0 (cK a))) (ag (aB 3) aM))))))))
def lF(a:vo):List Slot→eY:=Bw 6 [] (zf a)
theorem KW(F:lW K "_law_right" "_law_right" yU f fd)(T:Txt K mg a)(kj:AF P w K mg base 1 a.kf ["self"] (spS K 1 (bZ a)))(om:AF P w K mg base 5 a.og ["self"] (spS K 1 (cK a)))(NQ:mF P w K mg base 2 a.t9 ["_law_rows"] (gG K [false] uc))(KY:mF P w K mg base 7 a.jr ["_law_found","_law_due"] (gG K [false,false] (dJ 6)))(NT:mF P w K mg base 1 a.t8 ["_law_found"] (gG K [true] qO)):cD P w K mg base (CP P w) 8 f fd ["_law_box","_law_kept","_law_first"] (spS K 3 (lF a)) :=
  t4 F qQ (fun di A outer s H E F₀ H₀ hr=>by
    have hu:=hr.units;exact(ah (bT (i:=3) qQ.nd (cg NQ (hr.mono (by decide)) rfl T.t9 (cC (DE.bo (DO.sh (yN rfl rfl T.mV (Pu 1)))) aN))) (ah (cq (fY (bX 2)) (ah (qi (i:=5) qQ.nd (Py 0 T.dG T.qI om (hr.mono (by decide)))) (ah (cq (rV (fY (cg KY (hr.mono (by decide)) rfl T.jr (cC (aA 5) (cC (aA 3) aN))))) (au (cE sS)) aZ) (au (Jv 5)))) aZ) (ah (bT (i:=4) qQ.nd (Pw 0 T.dG T.qH kj (hr.mono (by decide)))) (ah (cq (DW.t (nW (rV (fY (cg NT (hr.mono (by decide)) rfl T.t8 (bw (bX 4) aN)))) (mG (uM hu (aA 4) (DE.bo (bJ (Ac rfl) Jn rfl T.KG B9 (cC (DE.bo (DO.sh (AX rfl rfl T.mV (Pu 1)))) aN))))))) (au (cE sS)) aZ) (au (cE (cg KY (hr.mono (by decide)) rfl T.jr (cC (DE.bo (DO.sh (Py 0 T.dG T.qI om (hr.mono (by decide))))) (cC (aA 3) aN))))))))))
theorem qR:bq ["self","text","many","names"] ["self","text","many"] (aj aV):=⟨rfl,rfl,rfl,by decide +kernel,rfl,by decide +kernel,by decide +kernel⟩
def jW(a:vo):SF:=(bj (cy 3 (bD eN (ag (mQ a.aE 0) (ag (eV 1) aM)))) (bj (lN (bD dB (ag (eV 2) aM))) (n5 (Nt a.aE 0) (SJ 0) (aB 3) (ae fZ (qA (Nt a.aE 0) (aB 3) (eC (.int 0))) (aB 2)))))
def eB(a:vo):List Slot→eY:=Bw 4 [0] (jW a)
theorem zg{oc dV kV doc pm di ct:Value}(lk:K.lookup f=some ⟨oc,od,.func (fnOf "put" "Box.put" (bM aV) (bA aV) (aj aV) dV kV doc pm an di ct),wc⟩)(dR:codeIn K di "Box.put"=true)(T:Txt K mg a)(jA:mF P w K mg base 1 a.dA ["many"] (gG K [true] dB))(lG:mF P w K mg base 1 a.eJ ["words","text"] (gG K [false,true] eN)):cD P w K mg base (CP P w) 2 f (fnOf "put" "Box.put" (bM aV) (bA aV) (aj aV) dV kV doc pm an di ct) ["self","text","many"] (spS K 3 (eB a)) :=
  AZ lk dR qR (fun A outer s H E F₀ H₀ hr=>by
    have hu:=hr.units;exact(ah (bT (i:=3) qR.nd (cg lG (hr.mono (by decide)) rfl T.eJ (cC (vd 0 T.dG T.qG) (bw (bX 1) aN)))) (ah (qw (cg jA (hr.mono (by decide)) rfl T.dA (bw (bX 2) aN))) (au (tZ (nT hr) (yD 0 T.dG T.jt) (aA 3) (cW (DE.bo (yE (nT hr) (yD 0 T.dG T.jt) (aA 3) ak)) (aA 2)))))))
theorem ko:bq ["self","text","many","names","left"] ["self","text","many"] (aj aR):=⟨rfl,rfl,rfl,by decide +kernel,rfl,by decide +kernel,by decide +kernel⟩
def iW(a:vo):SF:=(bj (cy 3 (bD eN (ag (mQ a.aE 0) (ag (eV 1) aM)))) (bj (lN (bD dB (ag (eV 2) aM))) (bj (cy 4 (ae GC (qA (Nt a.aE 0) (aB 3) (eC (.int 0))) (aB 2))) (bj (iM (bF (ae yh (aB 4) (eC (.int 0)))) uO bS) (n5 (Nt a.aE 0) (SJ 0) (aB 3) (eV 4))))))
def dN(a:vo):List Slot→eY:=Bw 5 [0] (iW a)
theorem wK{oc dV kV doc pm di ct:Value}(lk:K.lookup f=some ⟨oc,od,.func (fnOf "take" "Box.take" (bM aR) (bA aR) (aj aR) dV kV doc pm an di ct),wc⟩)(dR:codeIn K di "Box.take"=true)(T:Txt K mg a)(jA:mF P w K mg base 1 a.dA ["many"] (gG K [true] dB))(lG:mF P w K mg base 1 a.eJ ["words","text"] (gG K [false,true] eN)):cD P w K mg base (CP P w) 2 f (fnOf "take" "Box.take" (bM aR) (bA aR) (aj aR) dV kV doc pm an di ct) ["self","text","many"] (spS K 3 (dN a)) :=
  AZ lk dR ko (fun A outer s H E F₀ H₀ hr=>by
    have hu:=hr.units;exact(ah (bT (i:=3) ko.nd (cg lG (hr.mono (by decide)) rfl T.eJ (cC (vd 0 T.dG T.qG) (bw (bX 1) aN)))) (ah (qw (cg jA (hr.mono (by decide)) rfl T.dA (bw (bX 2) aN))) (ah (bT (i:=4) ko.nd (Cj (DE.bo (yE (nT hr) (yD 0 T.dG T.jt) (aA 3) ak)) (aA 2))) (ah (cq (mI (aA 4) (DE.bo ak)) (au j9) aZ) (au (tZ (nT hr) (yD 0 T.dG T.jt) (aA 3) (bX 4))))))))
theorem iA:bq ["_law_box","_law_kept","_law_roll","_law_xs","_law_cell","_law_words_here","_law_like_here","_law_there","_law_text","_law_many"] ["_law_box","_law_kept","_law_roll","_law_xs","_law_cell"] (aj yV):=⟨rfl,rfl,rfl,by decide +kernel,rfl,by decide +kernel,by decide +kernel⟩
def ud(a:vo):SF:=(bj (cy 5 (eL (fM 1 [2] (lS (eL (mH (eV 3) (gM (eC (.int 2))) (gM (ae fZ (eC (.int 2)) (ae cL (ae iQ (aB 3) (eC (.int 1))) (eC (.int 5)))))))) (aU true 0) jN (ae iQ (eV 1) (ae cL (aB 0) (iu dQ (ag (aB 1) aM))))))) (bj (cy 6 (bD vz (ag (eV 2) (ag (eV 5) aM)))) (bj (cy 7 (qA (Nu 1) (aB 6) (eC (.int 0)))) (bj (cy 8 (ae AH (eC (.str " ")) (aB 5))) (bj (cy 9 (ae iQ (eL (uD (ag (eC (.int 1)) (ag (ae fZ (eC (.int 1)) (ae cL (ae iQ (aB 3) (eC (.int 7))) (eC (.int 9)))) (ag (ae fZ (eC (.int 1)) (ae cL (aB 4) (ae GC (ae ML (eC (.int 10)) (eC (.int 38))) (eC (.int 1))))) aM))))) (ae cL (ae iQ (aB 3) (eC (.int 8))) (eC (.int 3))))) (bj (iM (eX (bF (ae dF (ae cL (ae iQ (aB 3) (eC (.int 0))) (eC (.int 3))) (eC (.int 0)))) (bF (ae HC (aB 7) (eC (.int 0))))) (bj (cy 9 (iu minD (ag (aB 9) (ag (aB 7) aM)))) (bj (iM (bF (ae dF (ae cL (ae iQ (aB 3) (eC (.int 9))) (eC (.int 3))) (eC (.int 0)))) (cy 9 (eV 7)) bS) (bj (n5 (Nu 1) (SK 1) (aB 6) (ae GC (aB 7) (aB 9))) (bj (iM (eX (bF (ae dF (aB 9) (eC (.int 1)))) (bF (ae dF (ae cL (ae iQ (aB 3) (eC (.int 9))) (eC (.int 2))) (eC (.int 1))))) (lO a.aE 0 [0,1] (ag (eV 8) aM) [.int 1] (dN a)) bS) (lO a.aE 0 [0,1] (ag (eV 8) (ag (eV 9) aM)) [] (dN a)))))) bS) (bj (n5 (Nu 1) (SK 1) (aB 6) (ae fZ (aB 7) (aB 9))) (bj (iM (eX (bF (ae dF (aB 9) (eC (.int 1)))) (bF (ae dF (ae cL (ae iQ (aB 3) (eC (.int 9))) (eC (.int 2))) (eC (.int 1))))) (lO a.aE 0 [0,1] (ag (eV 8) aM) [.int 1] (eB a)) bS) (lO a.aE 0 [0,1] (ag (eV 8) (ag (eV 9) aM)) [] (eB a))))))))))
def qS(a:vo):List Slot→eY:=Bw 10 [0,1] (ud a)
theorem KZ(F:lW K "_law_moved" "_law_moved" yV f fd)(T:Txt K mg a)(sW:Hc P w K mg base 2 a.mS ["self","text","many"] (spS K 3 (eB a)))(qT:Hc P w K mg base 2 a.lA ["self","text","many"] (spS K 3 (dN a)))(RL:mF P w K mg base 1 a.yZ ["_law_roll","_law_words_here"] (gG K [true,true] vz)):cD P w K mg base (CP P w) 3 f fd ["_law_box","_law_kept","_law_roll","_law_xs","_law_cell"] (spS K 5 (qS a)) :=
  t4 F iA (fun di A outer s H E F₀ H₀ hr=>by
    have hu:=hr.units;exact(ah (JJ (i:=5) rfl iA.nd (tgs:=["_law_number"]) (fi:=[2]) (fJ.of rfl) (by decide) (kR (DO.sh (Ah (bX 3) (jM (DE.bo ak)) (jM (DE.bo (cW (DE.bo ak) (DE.bo (cx (iL (aA 3) (DE.bo ak)) (DE.bo ak))))))))) (fun _ _ _ _=>(bN 0 X1)) (fun _ _ _ _=>qh) (fun _ _ _ _=>(EH (bX 1) (DE.bo (cx (aA 0) (DE.bo (bJ bt eu rfl T.fP dy (cC (aA 1) aN)))))))) (ah (bT (i:=6) iA.nd (cg RL (hr.mono (by decide)) rfl T.yZ (bw (bX 2) (bw (bX 5) aN)))) (ah (bT (i:=7) iA.nd (yE (nT hr) (CY 1) (aA 6) ak)) (ah (bT (i:=8) iA.nd (Np (DE.bo rT) (aA 5))) (ah (bT (i:=9) iA.nd (EH (DO.sh (oO (n:=3) (bw ak (bw (cW (DE.bo ak) (DE.bo (cx (iL (aA 3) (DE.bo ak)) (DE.bo ak)))) (bw (cW (DE.bo ak) (DE.bo (cx (aA 4) (DE.bo (Cj (DE.bo (QQ (DE.bo ak) (DE.bo ak))) (DE.bo ak)))))) aN))))) (DE.bo (cx (iL (aA 3) (DE.bo ak)) (DE.bo ak))))) (ah (cq (DW.t (rW (jP hu (DE.bo (cx (iL (aA 3) (DE.bo ak)) (DE.bo ak))) (DE.bo ak)) (qd (uG (aA 7) (DE.bo ak))))) (ah (bT (i:=9) iA.nd (bJ (Ga rfl) Rm rfl T.UW PyProof.Rows.boot_min (cC (aA 9) (cC (aA 7) aN)))) (ah (cq (jP hu (DE.bo (cx (iL (aA 3) (DE.bo ak)) (DE.bo ak))) (DE.bo ak)) (au (bT (i:=9) iA.nd (bX 7))) aZ) (ah (tZ (nT hr) (CY 1) (aA 6) (Cj (aA 7) (aA 9))) (ah (cq (DW.t (rW (jP hu (aA 9) (DE.bo ak)) (qd (jP hu (DE.bo (cx (iL (aA 3) (DE.bo ak)) (DE.bo ak))) (DE.bo ak))))) (au (A1 0 [0,1] T.dG T.sV qT (hr.mono (by decide)) (bw (bX 8) aN))) aZ) (au (A0 0 [0,1] T.dG T.sV qT (hr.mono (by decide)) (bw (bX 8) (bw (bX 9) aN)))))))) aZ) (ah (tZ (nT hr) (CY 1) (aA 6) (cW (aA 7) (aA 9))) (ah (cq (DW.t (rW (jP hu (aA 9) (DE.bo ak)) (qd (jP hu (DE.bo (cx (iL (aA 3) (DE.bo ak)) (DE.bo ak))) (DE.bo ak))))) (au (A1 0 [0,1] T.dG T.vp sW (hr.mono (by decide)) (bw (bX 8) aN))) aZ) (au (A0 0 [0,1] T.dG T.vp sW (hr.mono (by decide)) (bw (bX 8) (bw (bX 9) aN)))))))))))))
end
def tx(l:List Nat):Str:=⟨l.toArray⟩
theorem Ds(l:List Nat):(tx l).cps.toList=l:=by simp[tx]
theorem jB(l:List Nat):(tx l).length=l.length:=by simp[tx,Str.length]
theorem Dt(a b:List Nat):tx a++tx b=tx (a++b):=by show Str.append (tx a) (tx b)=_;simp[tx,Str.append]
theorem vH{a b:List Nat}(h:tx a=tx b):a=b:=by have:=fS (fun s:Str=>s.cps.toList) h;simpa[tx] using this
theorem U0(s:Str):s=tx s.cps.toList:=by cases s;simp[tx]
theorem A6(l:List Nat)(a:Nat):∀n,a+n≤l.length→((List.range n).map fun k=>a+k).filterMap (fun i=>l.toArray[i]?)=(l.drop a).take n
  |0,_=>by simp
  |n+1,h=>by
   rw[List.range_succ,wa,List.filterMap_append,A6 l a n (by omega),List.take_succ];have dY:a+n<l.length:=by omega
   congr 1
   simp[eP dY]
theorem RM(l:List Nat)(i j:Nat)(pA:i≤j)(hj:j≤l.length):(Builtin.Str.strSliceIndices (some (i:Int)) (some (j:Int)) 1 l.length)=(List.range (j-i)).map fun k=>i+k:=by
  unfold Builtin.Str.strSliceIndices sliceRange;simp only[show(1:Int)>0 by decide,cw];have e1:max 0 (min (if (i:Int)<0 then(i:Int)+l.length else i) (l.length:Int))=i:=by rw[az (by omega)];omega
  have e2:max 0 (min (if (j:Int)<0 then(j:Int)+l.length else j) (l.length:Int))=j:=by rw[az (by omega)];omega
  rw[e1,e2];have e3:(if (i:Int)<(j:Int) then((j:Int)-i+1-1) / 1 else 0).toNat=j-i:=by
    split
    ·rw[Int.ediv_one];omega
    ·omega
  rw[e3];apply List.map_congr_left;intro k _;omega
theorem NV(l:List Nat)(h:Option Int):Builtin.Str.strSliceIndices none h 1 l.length=Builtin.Str.strSliceIndices (some ((0:Nat):Int)) h 1 l.length:=by
  unfold Builtin.Str.strSliceIndices;simp only[show(1:Int)>0 by decide,cw];have e1:max 0 (min (if ((0:Nat):Int)<0 then((0:Nat):Int)+l.length else((0:Nat):Int)) (l.length:Int))=0:=by rw[az (by omega)];omega
  rw[e1]
theorem A7(l:List Nat)(i j:Nat)(pA:i≤j)(hj:j≤l.length):Txt.slice (tx l) (some (i:Int)) (some (j:Int))=tx ((l.drop i).take (j-i)):=by
  unfold Txt.slice;rw[jB,RM l i j pA hj];split
  · rename_i h;simp at h;have hi:i=0:=by omega
    have Ja:j=l.length:=by omega
    subst hi Ja;simp
  ·show Str.mk ((((List.range (j-i)).map fun k=>i+k).filterMap fun k=>l.toArray[k]?).toArray)=_;rw[A6 l i (j-i) (by omega)];rfl
theorem Fv(l:List Nat)(j:Nat)(hj:j≤l.length):Txt.slice (tx l) none (some (j:Int))=tx (l.take j):=by have h:=A7 l 0 j (iC _) hj;unfold Txt.slice at h⊢;rw[jB] at h⊢;rw[NV];rw[h];simp
def jn:List (List Nat)→List Nat
  |[]=>[]
  |[w]=>w
  |w::ws=>w++32::jn ws
theorem zh(w v:List Nat)(ws:List (List Nat)):jn (w::v::ws)=w++32::jn (v::ws):=rfl
theorem zi:∀(ws:List (List Nat)),Str.join ⟨#[32]⟩ (ws.map tx)=tx (jn ws)
  |[]=>rfl
  |[w]=>rfl
  |w::v::ws=>by have ih:=zi (v::ws);rw[zh];show tx w++⟨#[32]⟩++Str.join ⟨#[32]⟩ ((v::ws).map tx)=_;rw[ih];have:(⟨#[32]⟩:Str)=tx [32]:=rfl;rw[this,Dt,Dt];simp
theorem K0:∀(A B:List (List Nat)),A≠[]→B≠[]→(∀w∈A,32∉w)→(∀w∈B,32∉w)→jn A=jn B→A=B
  |[],_,h,_,_,_,_=>(h rfl).elim
  |_,[],_,h,_,_,_=>(h rfl).elim
  |[a],[b],_,_,_,_,e=>by have:a=b:=e;rw[this]
  |[a],b::c::B,_,_,hA,_,e=>by exfalso;have e':a=b++32::jn (c::B):=e;exact hA a eR (by rw[e'];simp)
  |a::c::A,[b],_,_,_,hB,e=>by exfalso;have e':a++32::jn (c::A)=b:=e;exact hB b eR (by rw[←e'];simp)
  |a::c::A,b::d::B,_,_,hA,hB,e=>by
   have e':a++32::jn (c::A)=b++32::jn (d::B):=e;have key:∀(x y p q:List Nat),32∉x→32∉y→x++32::p=y++32::q→x=y∧p=q:=by
     intro x;induction x with
     |nil =>
      intro y p q _ hy h;cases y with
      |nil=>simp at h;exact⟨rfl,h⟩
      |cons z y=>simp at h;exact(hy (by rw[←h.1];simp)).elim
     |cons z x ih =>
      intro y p q hx hy h;cases y with
      |nil=>simp at h;exact(hx (by rw[h.1];simp)).elim
      |cons z' y=>simp at h;obtain⟨h1,h2⟩:=ih y p q (fun m=>hx (et _ m)) (fun m=>hy (et _ m)) h.2;exact⟨by rw[h.1,h1],h2⟩
   obtain⟨h1,h2⟩:=key a b _ _ (hA a eR) (hB b eR) e';have ih:=K0 (c::A) (d::B) (by simp) (by simp) (fun w hw=>hA w (et _ hw)) (fun w hw=>hB w (et _ hw)) h2;rw[h1,ih]
theorem oZ:∀(l:dC),(l.map fun s=>s.cps.toList).map tx=l
  |[]=>rfl
  |s::l=>by rw[cB,cB,oZ l];rw[←U0 s]
theorem K1(ws:List (List Nat))(h:ws≠[])(hw:∀w∈ws,32∉w):Txt.split (tx (jn ws)) ⟨#[32]⟩=ws.map tx:=by
  have h1:=StrLaws.join_split (tx (jn ws)) ⟨#[32]⟩;have h2:=StrLaws.split_free (tx (jn ws)) 32;have h3:=PyProof.Rows.split_pos (tx (jn ws)) ⟨#[32]⟩;generalize Txt.split (tx (jn ws)) ⟨#[32]⟩=P at h1 h2 h3;rw[←oZ P,zi] at h1;have e:=K0 (P.map fun s=>s.cps.toList) ws (by intro z;simp at z;subst z;simp at h3) h (by
    intro w hw';obtain⟨s,hs,rfl⟩:=gC.mp hw';exact h2 s hs) hw (vH h1)
  rw[←oZ P,e]
theorem NW(ws:List (List Nat)):Txt.join ⟨#[32]⟩ (ws.map tx)=tx (jn ws):=by show Builtin.Str.glued _ _=_;rw[StrLaws.glued_eq_join,zi]
theorem K2:∀(ws:List (List Nat)),(jn ws).length≤(ws.map List.length).sum+ws.length
  |[]=>iC _
  |[w]=>by simp[jn]
  |w::v::ws=>by have:=K2 (v::ws);rw[zh];simp at this⊢;omega
theorem U1:∀(ws:List (List Nat)),ws≠[]→(∀w∈ws,w≠[])→jn ws≠[]
  |[],h,_=>(h rfl).elim
  |[w],_,hw=>hw w eR
  |w::v::ws,_,hw=>by rw[zh];simp
def fj:Str:="abcdefghijklmnopqrstuvwxyz"
def lets:List Nat:=(List.range 26).map (97+·)
theorem vJ:fj=tx lets:=by decide +kernel
theorem K3{c:Nat}:c∈lets↔97≤c∧c≤122:=by
  unfold lets;simp only[gC,mj];constructor
  ·rintro⟨k,hk,rfl⟩;omega
  ·intro h;exact⟨c-97,by omega,by omega⟩
theorem K4:∀k<26,Txt.find fj (tx [97+k])=(k:Int):=by decide +kernel
theorem NX(c:Nat):(!(Builtin.Str.occurrences fj (tx [c]) 0 fj.length 1).isEmpty)=decide (97≤c∧c≤122):=by
  have:=StrLaws.found_one fj c;rw[show(⟨#[c]⟩:Str)=tx [c] from rfl] at this;rw[this];have e:fj.cps.toList=lets:=by rw[vJ,Ds]
  rw[e];exact decide_eq_decide.mpr K3
def enc(p:bK×Int):List Key×D:=(p.1.map Sum.inl,.int p.2)
theorem Fw{a b:bK}(h:a.map (Sum.inl:Int→Key)=b.map Sum.inl):a=b:=by have:=fS Je h;rwa[xf,xf] at this
def bO(ps:dX)(k:bK):Option Int:=(ps.find? fun p=>decide (p.1=k)).map (·.2)
def kG(ps:dX)(k:bK)(m:Int):dX :=
  if (ps.any fun p=>decide (p.1=k))=true then ps.map fun p=>if p.1=k then(p.1,m) else p else ps++[(k,m)]
theorem Fz(p:bK×Int)(k:bK):decide ((enc p).1=k.map Sum.inl)=decide (p.1=k):=by
  have:((enc p).1=k.map Sum.inl)↔p.1=k:=⟨fun h=>Fw h,fun h=>by rw[←h];rfl⟩
  simp[this]
theorem kH(k:bK):∀ps:dX,oT (ps.map enc) (k.map Sum.inl)=(bO ps k).map D.int
  |[]=>rfl
  |p::ps=>by
   have ih:=kH k ps;unfold oT bO at *;rw[cB,rm,rm,Fz];cases decide (p.1=k) with
   |true=>rfl
   |false=>exact ih
theorem FC(k:bK):∀ps:dX,((ps.map enc).any fun kv=>decide (kv.1=k.map Sum.inl))=ps.any fun p=>decide (p.1=k)
  |[]=>rfl
  |p::ps=>by rw[cB,List.any_cons,List.any_cons,FC k ps,Fz]
theorem qU(ps:dX)(k:bK)(m:Int):putD (ps.map enc) (k.map Sum.inl) (.int m)=(kG ps k m).map enc:=by
  unfold putD kG;rw[FC];by_cases h:(ps.any fun p=>decide (p.1=k))=true
  · rw[ay h,ay h,fA,fA];refine List.map_congr_left fun p _=>?_;show(if (enc p).1=k.map Sum.inl then((enc p).1,D.int m) else enc p)=enc (if p.1=k then(p.1,m) else p);by_cases e:p.1=k
    ·rw[ay e,ay (show(enc p).1=k.map Sum.inl by rw[←e];rfl)];rfl
    ·rw[az e,az (show ¬ (enc p).1=k.map Sum.inl from fun z=>e (Fw z))]
  ·rw[az h,az h,wa];rfl
structure zv (c:Int) (ps:dX):Prop where
  nd:(ps.map (·.1)).Nodup
  all:∀p∈ps,nU c p.1∧1≤p.2
theorem mX{k:bK}{m:Int}(h:bO ps k=some m):(k,m)∈ps:=by
  unfold bO at h;obtain⟨p,h1,h2⟩:=iB.mp h;have h3:=List.find?_some h1;have h4:=List.mem_of_find?_eq_some h1;obtain⟨a,b⟩:=p;have e1:a=k:=by simpa using h3
  have e2:b=m:=h2;subst e1 e2;exact h4
theorem nK:∀{ps:dX} {k:bK} {m:Int},(ps.map (·.1)).Nodup→(k,m)∈ps→bO ps k=some m
  |[],_,_,_,h=>nomatch h
  |p::r,k,m,nd,h=>by
   rw[cB] at nd;obtain⟨h1,h2⟩:=List.nodup_cons.mp nd;unfold bO;rcases dm.mp h with e|e
   ·rw[←e,rm];simp
   ·have:¬ p.1=k:=fun z=>h1 (gC.mpr ⟨(k,m),e,z.symm⟩);rw[rm];simp only[this,decide_false];exact nK h2 e
theorem xr(ps:dX)(k:bK)(m:Int):(kG ps k m).map (·.1)=if (ps.any fun p=>decide (p.1=k))=true then ps.map (·.1) else ps.map (·.1)++[k]:=by
  unfold kG;by_cases h:(ps.any fun p=>decide (p.1=k))=true
  ·rw[ay h,ay h,fA];refine List.map_congr_left fun p _=>?_;show(if p.1=k then(p.1,m) else p).1=p.1;split<;>rfl
  ·rw[az h,az h,wa];rfl
theorem qV(ps:dX)(k:bK)(m:Int):(kG ps k m).length≤ps.length+1:=by unfold kG;split<;>simp
theorem zv.put(h:zv c ps){k:bK}{m:Int}(hs:nU c k)(hm:1≤m):zv c (kG ps k m):=by
  refine⟨?_,fun p hp=>?_⟩
  · rw[xr];by_cases q:(ps.any fun p=>decide (p.1=k))=true
    ·rw[ay q];exact h.nd
    ·rw[az q];refine x5 h.nd fun hk=>q ?_;obtain⟨p,h1,h2⟩:=gC.mp hk;exact List.any_eq_true.mpr ⟨p,h1,mh h2⟩
  · unfold kG at hp;split at hp
    · obtain⟨p',h1,h2⟩:=gC.mp hp;by_cases e:p'.1=k
      ·rw[ay e] at h2;rw[←h2,e];exact⟨hs,hm⟩
      ·rw[az e] at h2;rw[←h2];exact h.all p' h1
    · rcases md.mp hp with q|q
      ·exact h.all p q
      · have e:p=(k,m):=by simpa using q
        rw[e];exact⟨hs,hm⟩
theorem zv.get(h:zv c ps)(k:bK):0≤(bO ps k).getD 0:=by
  cases e:bO ps k with
  |none=>exact Int.le_refl _
  |some m=>have:=(h.all _ (mX e)).2;simp only[Option.getD_some];omega
theorem qW(o:Option Int):(o.map D.int).getD (.int 0)=.int (o.getD 0):=by cases o<;>rfl
theorem ib(k:bK):Cu (.tup (k.map D.int))=some (k.map Sum.inl):=sU k
def aS(h:bK×Int):D:=.tup [.tup (h.1.map D.int),.int h.2]
def dD(p:bK×Int):Int×bK:=((p.1.length:Int),p.1)
def jC(ps:dX):dX:=(mN (ps.map dD)).map fun q=>(q.2,(bO ps q.2).getD 0)
theorem FD(h:zv c ps):(ps.map dD).Nodup:=by have q:=h.nd;unfold List.Nodup at q⊢;rw[List.pairwise_map] at q⊢;exact q.imp fun {a b} pC e=>pC (by injection e)
theorem pd(h:zv c ps){q:Int×bK}(hq:q∈mN (ps.map dD)):∃m,(q.2,m)∈ps∧bO ps q.2=some m∧q.1=(q.2.length:Int):=by obtain⟨p,h1,rfl⟩:=gC.mp ((kZ _).mem_iff.mp hq);exact⟨p.2,h1,nK h.nd h1,rfl⟩
def dS(r:bK×Int):D:=.tup [.lst (r.1.map D.int),.int r.2]
def dk(ns:bK):bK:=(NS.nameSet ns).map fun(k:Nat)=>(k:Int)
def lH(c:Int)(rs:dX):Prop:=∀r∈rs,(∀n∈r.1,0≤n∧n<c)∧0≤r.2
def gN(ps:dX)(r:bK×Int):dX:=if 0<r.2 then kG ps (dk r.1) ((bO ps (dk r.1)).getD 0+r.2) else ps
def lV(rs:dX):dX:=rs.foldl gN []
theorem A8(h0:0≤c)(h:∀n∈ns,0≤n∧n<c):nU c (dk ns):=by
  refine⟨?_,fun n hn=>?_⟩
  ·unfold dk NS.nameSet;rw[List.pairwise_map];exact(List.pairwise_lt_range.filter _).imp fun h=>by omega
  ·obtain⟨k,hk,rfl⟩:=gC.mp hn;have:=(List.mem_filter.mp hk).2;exact h _ (xE.mp this)
theorem A9{g:SF}(h:g (iG n ms ds)=some (.nx η)):pD n ms g ds=some (.sh .non):=by unfold pD;rw[h]
theorem NZ(h1:1≤c)(h6:c≤6):fe [.int c]=some (.sh .non):=by refine A9 (η:=[some (.sh (.int c))]) ?_;show iK [some (.sh (.int c))]=_;unfold iK;refine(ef ?_).trans rfl;have a1:decide (c<1)=false:=gQ (by omega);have a2:decide (6<c)=false:=gQ (by omega);simp only[iP,bF,ae,aB,eC,cS,cf,jQ,lL,a1,a2];rfl
theorem Hh(h:lH c rs):fh [.int c,.lst (rs.map dS)]=some (.sh .non):=by
  obtain⟨η',e,o2,o3,o4,rfl⟩:=kC (b:=j7 2 (bY (aU true 2) (bY (aU true 3) j6))) (g:=jT) dS (fun(_:Unit) η=>∃o2 o3 o4,η=[some (.sh (.int c)),some (.sh (.lst (rs.map dS))),o2,o3,o4]) (fun _ _=>()) (xs:=rs) (η:=[some (.sh (.int c)),some (.sh (.lst (rs.map dS))),none,none,none]) () ⟨_,_,_,rfl⟩ (fun x hx s η ⟨o2,o3,o4,e⟩=>by
    subst e;obtain⟨η',e,SR,rfl⟩:=kC (b:=aU true 4) (g:=gn) D.int (fun(_:Unit) η=>∃o4,η=[some (.sh (.int c)),some (.sh (.lst (rs.map dS))),some (.sh (.lst (x.1.map D.int))),some (.sh (.int x.2)),o4]) (fun _ _=>()) (xs:=x.1) (η:=[some (.sh (.int c)),some (.sh (.lst (rs.map dS))),some (.sh (.lst (x.1.map D.int))),some (.sh (.int x.2)),o4]) () ⟨_,rfl⟩ (fun n hn s η ⟨o4,e⟩=>by
      subst e;refine⟨[some (.sh (.int c)),some (.sh (.lst (rs.map dS))),some (.sh (.lst (x.1.map D.int))),some (.sh (.int x.2)),some (.sh (.int n))],[some (.sh (.int c)),some (.sh (.lst (rs.map dS))),some (.sh (.lst (x.1.map D.int))),some (.sh (.int x.2)),some (.sh (.int n))],rfl,?_,_,rfl⟩;unfold gn;refine(ef ?_).trans rfl;have:=(h x hx).1 n hn;have a1:decide (n<0)=false:=gQ (by omega);have a2:decide (c≤n)=false:=gQ (by omega);simp only[iP,bF,ae,aB,eC,cS,dO,cf,jQ,Uw,a1,a2];rfl)
    refine⟨[some (.sh (.int c)),some (.sh (.lst (rs.map dS))),some (.sh (.lst (x.1.map D.int))),some (.sh (.int x.2)),o4],_,rfl,(gd (ds:=x.1.map D.int) rfl).trans e,_,_,_,rfl⟩)
  exact A9 ((gd (ds:=rs.map dS) rfl).trans e)
def cP(rs:dX):Int:=(rs.map fun r=>r.2).sum
theorem RN(rs:dX):fL (j7 2 (bY (aU true 0) (bY (aU true 1) j6))) jN (eV 1) (rs.map dS) [none,none]=some ((rs.map fun r=>r.2).map D.int):=by rw[fA];exact kD dS (D.int∘fun r=>r.2) fun x _=>⟨[some (.sh (.lst (x.1.map D.int))),some (.sh (.int x.2))],rfl,rfl,rfl⟩
theorem Ba(h:lH c rs)(hs:cP rs≠0):dW [.lst (rs.map dS)]=some (.sh .non):=by
  obtain⟨η',e,o1,o2,rfl⟩:=kC (b:=j7 2 (bY (aU true 1) (bY (aU true 2) j6))) (g:=eQ) dS (fun(_:Unit) η=>∃o1 o2,η=[some (.sh (.lst (rs.map dS))),o1,o2]) (fun _ _=>()) (xs:=rs) (η:=[some (.sh (.lst (rs.map dS))),none,none]) () ⟨_,_,rfl⟩ (fun x hx s η ⟨o1,o2,e⟩=>by
    subst e;refine⟨[some (.sh (.lst (rs.map dS))),some (.sh (.lst (x.1.map D.int))),some (.sh (.int x.2))],[some (.sh (.lst (rs.map dS))),some (.sh (.lst (x.1.map D.int))),some (.sh (.int x.2))],rfl,?_,_,_,rfl⟩;unfold eQ;refine(ef ?_).trans rfl;have a1:decide (x.2<0)=false:=gQ (by have:=(h x hx).2;omega);simp only[bF,ae,aB,eC,cS,dO,cf,jQ,a1])
  refine A9 (η:=[some (.sh (.lst (rs.map dS))),o1,o2]) ?_;show gj [some (.sh (.lst (rs.map dS))),none,none]=_;unfold gj;refine(aC ((gd (ds:=rs.map dS) rfl).trans e)).trans ?_;refine(ef ?_).trans rfl;have q:fL (j7 2 (bY (aU true 0) (bY (aU true 1) j6))) jN (eV 1) (rs.map dS) (List.replicate 2 none++[])=some ((rs.map fun r=>r.2).map D.int):=RN rs;simp only[bF,ae,iu,ag,aM,eL,fM,lS,eV,cS,cf,fK,oK,rq,q,eD,Cg,gY,eC,df];have:((rs.map fun r=>r.2).sum==0)=false:=by unfold cP at hs;simpa using hs
  exact fS some this
theorem qX(h0:0≤c)(h:lH c rs)(hp:zv c ps):zv c (rs.foldl gN ps)∧(rs.foldl gN ps).length≤ps.length+rs.length:=by
  induction rs generalizing ps with
  |nil=>exact⟨hp,bG _⟩
  |cons r rs ih =>
   have hr:=h r eR;have h1:zv c (gN ps r):=by
     unfold gN;split
     ·exact hp.put (A8 h0 hr.1) (by have:=hp.get (dk r.1);omega)
     ·exact hp
   have h2:(gN ps r).length≤ps.length+1:=by
     unfold gN;split
     ·exact qV _ _ _
     ·omega
   obtain⟨a,b⟩:=ih (fun x hx=>h x (et _ hx)) h1;refine⟨a,?_⟩;rw[List.foldl_cons,eT];omega
theorem N1(h6:c≤6){R:D}{x:bK×Int}(hx:(∀n∈x.1,0≤n∧n<c)∧0≤x.2)(hl:ps.length<10000)(o4:eY):∃SR,dI [some (.sh R),some (.ot (ps.map enc)),some (.sh (.lst (x.1.map D.int))),some (.sh (.int x.2)),o4]=some (.nx [some (.sh R),some (.ot ((gN ps x).map enc)),some (.sh (.lst (x.1.map D.int))),some (.sh (.int x.2)),SR]):=by
  unfold dI;by_cases q:0<x.2
  · have hs:oW (aB 2) [some (.sh R),some (.ot (ps.map enc)),some (.sh (.lst (x.1.map D.int))),some (.sh (.int x.2)),o4]=some ((dk x.1).map D.int):=by
      have ha:(x.1.all fun n=>decide (0≤n)&&decide (n<6))=true:=eU.mpr fun n hn=>by have:=hx.1 n hn;simp;omega
      simp only[oW,aB,cS,dO,cf,gY,ha,cw];unfold dk;rw[fA];rfl
    refine⟨some (.sh (.tup ((dk x.1).map D.int))),?_⟩;refine(lg (by simp[bF,ae,aB,eC,lL,q])).trans ?_;refine(aC (bW (d:=.tup ((dk x.1).map D.int)) ?_)).trans ?_
    ·simp only[jk,eL,hs,eD,cf,fK]
    ·have hp:=qU ps (dk x.1) ((bO ps (dk x.1)).getD 0+x.2);simp only[jd,jF,yo,ae,yn,dT,aB,eC,cS,dO,cf,ib,kH,eD,qW,eA,hp,fG,hl,cw,gN,q]
  · refine⟨o4,?_⟩;refine(ef (by simp[bF,ae,aB,eC,lL];omega)).trans ?_;have:gN ps x=ps:=by unfold gN;rw[az q]
    rw[this];rfl
theorem Du(h0:0≤c)(h6:c≤6)(h:lH c rs)(hl:rs.length≤1000):eM [.lst (rs.map dS)]=some (.ot ((lV rs).map enc)):=by
  obtain⟨η',e,o2,o3,o4,ha,rfl⟩:=lh (b:=j7 2 (bY (aU true 2) (bY (aU true 3) j6))) (g:=dI) dS (fun i (ps:dX) η=>∃o2 o3 o4,ps.length≤i∧η=[some (.sh (.lst (rs.map dS))),some (.ot (ps.map enc)),o2,o3,o4]) gN (xs:=rs) (η:=[some (.sh (.lst (rs.map dS))),some (.ot []),none,none,none]) 0 [] ⟨_,_,_,iC _,rfl⟩ (fun i x ps η hx ⟨o2,o3,o4,hp,e⟩=>by
    subst e;have hi:=(kJ.mp hx).1;obtain⟨SR,q⟩:=N1 h6 (R:=.lst (rs.map dS)) (x:=x) (h x (zx hx)) (ps:=ps) (by omega) o4;refine⟨_,_,rfl,q,_,_,_,?_,rfl⟩;unfold gN;split
    ·exact gy (qV _ _ _) (by omega)
    ·omega)
  refine jR ?_;show hZ [some (.sh (.lst (rs.map dS))),none,none,none,none]=_;unfold hZ;refine(aC (show Cv 1 _=some (.nx _) from rfl)).trans ?_;refine(aC ((gd (ds:=rs.map dS) rfl).trans e)).trans ?_;rfl
theorem RP(t:bK):ju [.tup (t.map D.int)]=some (.sh (mM ((t.length:Int),t))):=by simp[ju,pD,iG,A3,dZ,oN,ag,aM,iu,dQ,aB,eV,mM]
theorem Bb(t:bK):nB (t.map Sum.inl)=some t:=by
  induction t with
  |nil=>rfl
  |cons x t ih=>show(nB (t.map Sum.inl)).map (x::·)=_;rw[ih];rfl
theorem N2(ps:dX):qu ju (ps.map enc)=some (ps.map dD):=by
  induction ps with
  |nil=>rfl
  |cons p ps ih =>
   have e1:nB (enc p).1=some p.1:=Bb p.1;have e2:uY ju p.1=some (dD p):=by unfold uY;rw[RP];simp only[mM];rw[ay (gY _)];rfl
   rw[cB];unfold qu;rw[e1,cf,e2,cf,ih];rfl
theorem Hi(h1:1≤c)(h6:c≤6)(h:lH c rs)(hs:cP rs≠0)(hl:rs.length≤1000)(hk:(lV rs).length<64):iV [.int c,.lst (rs.map dS)]=some (.ol ((jC (lV rs)).map aS)):=by
  have hP:zv c (lV rs):=(qX (ps:=[]) (by omega) h ⟨List.nodup_nil,fun _ h=>nomatch h⟩).1;refine jR ?_;show lD [some (.sh (.int c)),some (.sh (.lst (rs.map dS))),none]=_;unfold lD;refine(aC (η':=[some (.sh (.int c)),some (.sh (.lst (rs.map dS))),none]) ?_).trans ?_
  ·simp only[lN,bD,ag,aM,eV,cS,cf,eD,NZ h1 h6]
  refine(aC (η':=[some (.sh (.int c)),some (.sh (.lst (rs.map dS))),none]) ?_).trans ?_
  ·simp only[lN,bD,ag,aM,eV,cS,dO,cf,eD,Hh h]
  refine(aC (η':=[some (.sh (.int c)),some (.sh (.lst (rs.map dS))),none]) ?_).trans ?_
  ·simp only[lN,bD,ag,aM,eV,cS,dO,cf,eD,Ba h hs]
  refine(aC (η':=[some (.sh (.int c)),some (.sh (.lst (rs.map dS))),some (.ot ((lV rs).map enc))]) ?_).trans ?_
  ·simp only[EZ,ag,aM,eV,cS,dO,cf,eD,Du (c:=c) (by omega) h6 h hl,jd,jF]
  refine EW ?_;have hn:((lV rs).map dD).Nodup∧((lV rs).map dD).length<64:=⟨FD hP,by rw[fG];exact hk⟩
  have hq:fL (aU true 0) jN (oN (ag (eV 0) (ag (Aq 1 (aB 0)) aM))) ((mN ((lV rs).map dD)).map fun e=>D.tup (e.2.map D.int)) [none,some (.ot ((lV rs).map enc))]=some ((jC (lV rs)).map aS):=by
    unfold jC;rw[fA];refine kD (fun e:Int×bK=>D.tup (e.2.map D.int)) _ fun q hq=>⟨[some (.sh (.tup (q.2.map D.int))),some (.ot ((lV rs).map enc))],rfl,rfl,?_⟩
    obtain⟨m,_,h2,_⟩:=pd hP hq;simp[oN,ag,aM,eV,aB,Aq,dT,ib,kH,h2,aS]
  simp only[fM,lS,eL,yz,dT,cS,dO,cf,N2,hn,and_self,cw,eD,fK,oK,cB,rq,Option.getD_some];exact hq
theorem cn(p:bK×Int)(ps:dX)(k:bK):bO (p::ps) k=if p.1=k then some p.2 else bO ps k:=by
  unfold bO;rw[rm];by_cases e:p.1=k
  ·rw[ay e];simp[e]
  ·rw[az e];simp[e]
theorem sI{k:bK}:bO ps k=none↔k∉ps.map (·.1):=by
  induction ps with
  |nil=>simp[bO]
  |cons p ps ih =>
   rw[cn];by_cases e:p.1=k
   ·simp[e]
   · rw[az e,ih,cB,dm];constructor
     · rintro h (q|q)
       ·exact e q.symm
       ·exact h q
     ·exact fun h q=>h (.inr q)
theorem K5(ps:dX)(k k':bK)(m:Int):bO (kG ps k m) k'=if k'=k then some m else bO ps k':=by
  unfold kG;by_cases h:(ps.any fun p=>decide (p.1=k))=true
  · rw[ay h];have h':k∈ps.map (·.1):=by
      obtain⟨p,h1,h2⟩:=List.any_eq_true.mp h;exact gC.mpr ⟨p,h1,of_decide_eq_true h2⟩
    clear h;induction ps with
    |nil=>nomatch h'
    |cons p ps ih =>
     rw[cB,cn,cn];by_cases e:p.1=k
     · rw[ay e];by_cases e':k'=k
       ·rw[ay e',ay (by show p.1=k';rw[e,e'])]
       · rw[az e',az (show ¬ p.1=k' from fun z=>e' (z.symm.trans e)),az (show ¬ p.1=k' from fun z=>e' (z.symm.trans e))];by_cases q:k∈ps.map (·.1)
         ·rw[ih q,az e']
         · have:(ps.map fun p=>if p.1=k then(p.1,m) else p)=ps:=by
             refine(List.map_congr_left fun x hx=>?_).trans (List.map_id _);exact az fun z=>q (gC.mpr ⟨x,hx,z⟩)
           rw[this]
     · rw[az e];have q:k∈ps.map (·.1):=by
         rcases dm.mp h' with z|z
         ·exact absurd z.symm e
         ·exact z
       rw[ih q];by_cases e':k'=k
       ·rw[ay e',az (show ¬ p.1=k' from fun z=>e (z.trans e')),ay e']
       ·rw[az e',az e']
  · rw[az h];have hn:k∉ps.map (·.1):=fun z=>h (by
      obtain⟨p,h1,h2⟩:=gC.mp z;exact List.any_eq_true.mpr ⟨p,h1,mh h2⟩)
    clear h;induction ps with
    |nil =>
     rw[List.nil_append,cn];by_cases e':k'=k
     ·rw[ay e',ay e'.symm]
     ·rw[az e',az (show ¬ k=k' from fun z=>e' z.symm)]
    |cons p ps ih =>
     rw[List.cons_append,cn,cn,ih fun z=>hn (et _ z)];by_cases e':k'=k
     ·have:¬ p.1=k':=fun z=>hn (by rw[cB,←e',←z];exact eR);rw[ay e',az this,ay e']
     ·rw[az e',az e']
theorem mY(hp:zv c ps):(jC ps).Perm ps:=by
  unfold jC;refine((kZ _).map _).trans ?_;rw[fA];have:ps.map ((fun q:Int×bK=>(q.2,(bO ps q.2).getD 0))∘dD)=ps:=by refine(List.map_congr_left fun p hm=>?_).trans (List.map_id _);show(p.1,(bO ps p.1).getD 0)=p;rw[nK hp.nd (show(p.1,p.2)∈ps from hm)];rfl
  rw[this]
theorem Bc{x:D}{xs:eZ}{t:String}(hx:fK x=some xs)(X2:∀i,iQ x (.int i)=rJ xs i)(hlen:dQ [x]=some (.int xs.length))(Sr:LZ x=some t)(ht:t="tuple"∨t="list")(hl:xs.length≤1000)(oG:∀y∈xs,dJ n [y,y]=some (.sh (.bl true))):dJ (n+1) [x,x]=some (.sh (.bl true)):=by
  refine jR ?_;show g_same (dJ n) [some (.br x),some (.br x),none]=_;unfold g_same;have e1:∀T o,(mK T (aB 1)) [some (Slot.br x),some (Slot.br x),o]=some (.bl (JA T t)):=fun T o=>by simp only[mK,aB,cS,dO,cf,Sr,eD]
  have e0:∀T o,(mK T (aB 0)) [some (Slot.br x),some (Slot.br x),o]=some (.bl (JA T t)):=fun T o=>by simp only[mK,aB,cS,dO,cf,Sr,eD]
  have T9:iP (bF (mK "tuple" (aB 1))) (bF (mK "list" (aB 1))) [some (Slot.br x),some (Slot.br x),none]=some true:=by simp only[iP,bF,e1,cf];rcases ht with rfl|rfl<;>rfl
  obtain⟨η',e,o2,rfl⟩:=jm (b:=aU true 2) (g:=vx (dJ n)) (ds:=cA 0 xs.length) (η:=[some (.br x),some (.br x),none]) (fun _ η=>∃o2,η=[some (.br x),some (.br x),o2]) 0 ⟨none,rfl⟩ (fun i d η hd ⟨o2,e⟩=>by
    subst e;rw[hJ,eS,eS] at hd;obtain⟨j,hj,rfl⟩:=iB.mp hd;obtain⟨j',Ja,rfl⟩:=iB.mp hj;have hjl:j'<xs.length:=by have h1:=zx Ja;simpa using h1
    refine⟨[some (.br x),some (.br x),some (.sh (.int (0+(j':Int))))],[some (.br x),some (.br x),some (.sh (.int (0+(j':Int))))],rfl,.inl ?_,_,rfl⟩;unfold vx;have Fe:rJ xs (0+(j':Int))=some xs[j']:=by rw[Int.zero_add];exact kN (by simp[hjl])
    have hc:=oG xs[j'] (by simp);refine(ef ?_).trans rfl;simp only[jj,bF,bD,ag,aM,ae,aB,cS,dO,cf,eD,X2,Fe,hc,Bool.not_true])
  refine mO ((lg T9).trans ?_);refine(aC (η':=[some (.br x),some (.br x),none]) ((ef ?_).trans rfl)).trans ?_
  ·simp only[iP,bF,ae,e0,e1,cf,Ra];simp
  refine(aC (η':=[some (.br x),some (.br x),none]) ((ef ?_).trans rfl)).trans ?_
  ·simp only[bF,ae,iu,ag,aM,aB,cS,dO,cf,eD,hlen,nA];simp
  refine(aC ((gd (ds:=cA 0 xs.length) ?_).trans e)).trans rfl;simp only[dE,iu,ag,aM,aB,cS,dO,cf,eD,hlen];rw[ay ⟨by omega,by omega⟩]
  congr 1
theorem same_int(n:Nat)(i:Int):dJ (n+1) [.int i,.int i]=some (.sh (.bl true)):=by refine jR ?_;show g_same (dJ n) [some (.br (.int i)),some (.br (.int i)),none]=_;unfold g_same;refine(aC (η':=[some (.br (.int i)),some (.br (.int i)),none]) ((ef rfl).trans rfl)).trans ?_;refine(aC (η':=[some (.br (.int i)),some (.br (.int i)),none]) ((ef rfl).trans rfl)).trans ?_;refine mO ((lg rfl).trans (oV ?_));simp[yg,Jl,bF,mK,aB,LZ,JA,ae,df]
theorem Bd{xs:eZ}(hl:xs.length≤1000)(oG:∀y∈xs,dJ n [y,y]=some (.sh (.bl true))):dJ (n+1) [.tup xs,.tup xs]=some (.sh (.bl true)):=Bc rfl (fun _=>rfl) rfl rfl (.inl rfl) hl oG
theorem K6{xs:eZ}(hl:xs.length≤1000)(oG:∀y∈xs,dJ n [y,y]=some (.sh (.bl true))):dJ (n+1) [.lst xs,.lst xs]=some (.sh (.bl true)):=Bc rfl (fun _=>rfl) rfl rfl (.inr rfl) hl oG
theorem FE{O T:D}:∀(a b:bK) (o2 o3:eY),a.length=b.length→(a=b∧∃X3 X4,j8 (j7 2 (bY (aU true 2) (bY (aU true 3) j6))) dM (mP (a.map D.int) (b.map D.int)) [some (.sh O),some (.sh T),o2,o3]=some (.nx [some (.sh O),some (.sh T),X3,X4]))∨(a≠b∧j8 (j7 2 (bY (aU true 2) (bY (aU true 3) j6))) dM (mP (a.map D.int) (b.map D.int)) [some (.sh O),some (.sh T),o2,o3]=some (.rt (.sh (.bl (HT.lexLt a b)))))
  |[],[],o2,o3,_=>.inl ⟨rfl,o2,o3,rfl⟩
  |[],_::_,_,_,h=>by cases h
  |_::_,[],_,_,h=>by cases h
  |x::a,y::b,o2,o3,h=>by
   have hb:j7 2 (bY (aU true 2) (bY (aU true 3) j6)) (.tup [.int x,.int y]) [some (.sh O),some (.sh T),o2,o3]=some [some (.sh O),some (.sh T),some (.sh (.int x)),some (.sh (.int y))]:=rfl;have hz:mP ((x::a).map D.int) ((y::b).map D.int)=.tup [.int x,.int y]::mP (a.map D.int) (b.map D.int):=rfl;rw[hz];by_cases e:x=y
   · have hg:dM [some (.sh O),some (.sh T),some (.sh (.int x)),some (.sh (.int y))]=some (.nx [some (.sh O),some (.sh T),some (.sh (.int x)),some (.sh (.int y))]):=by
       unfold dM;refine(ef ?_).trans rfl;simp[bF,ae,aB,nA,e]
     have hf:j8 (j7 2 (bY (aU true 2) (bY (aU true 3) j6))) dM (.tup [.int x,.int y]::mP (a.map D.int) (b.map D.int)) [some (.sh O),some (.sh T),o2,o3]=j8 (j7 2 (bY (aU true 2) (bY (aU true 3) j6))) dM (mP (a.map D.int) (b.map D.int)) [some (.sh O),some (.sh T),some (.sh (.int x)),some (.sh (.int y))]:=by
       conv=>lhs;unfold j8
       rw[hb];simp only[cf,hg]
     rcases FE a b (some (.sh (.int x))) (some (.sh (.int y))) (by simpa using h) with⟨h1,X3,X4,h2⟩|⟨h1,h2⟩
     ·exact .inl ⟨by rw[e,h1],X3,X4,by rw[hf];exact h2⟩
     ·refine .inr ⟨fun z=>h1 (by injection z),?_⟩;rw[hf,h2,HT.gX,ay e]
   · have hg:dM [some (.sh O),some (.sh T),some (.sh (.int x)),some (.sh (.int y))]=some (.rt (.sh (.bl (decide (x<y))))):=by
       unfold dM;refine(lg ?_).trans ?_
       ·simp[bF,ae,aB,nA,e]
       ·simp[dZ,ae,aB,jQ]
     refine .inr ⟨fun z=>e (by injection z),?_⟩
     conv=>lhs;unfold j8
     rw[hb];simp only[cf,hg];rw[HT.gX,az e]
def wL(t:bK):Int×bK:=((t.length:Int),t)
theorem K7(a b:bK):qP [.tup (a.map D.int),.tup (b.map D.int)]=some (.sh (.bl (kB (wL a) (wL b)))):=by
  refine jR ?_;show vy [some (.sh (.tup (a.map D.int))),some (.sh (.tup (b.map D.int))),none,none]=_;unfold vy kB wL;by_cases e:a.length=b.length
  · have e':(a.length:Int)=(b.length:Int):=by omega
    rw[ay e'];refine(aC ((ef ?_).trans rfl)).trans ?_
    ·simp[bF,ae,iu,ag,aM,aB,dQ,nA,e]
    · rcases FE (O:=.tup (a.map D.int)) (T:=.tup (b.map D.int)) a b none none e with⟨h1,o2,o3,h2⟩|⟨h1,h2⟩
      ·refine(aC ((gd (ds:=mP (a.map D.int) (b.map D.int)) rfl).trans h2)).trans ?_;subst h1;show _=some (Out.rt (.sh (.bl (HT.lexLt a a))));rw[kO];rfl
      ·exact mO ((gd (ds:=mP (a.map D.int) (b.map D.int)) rfl).trans h2)
  · have e':¬ (a.length:Int)=(b.length:Int):=by omega
    rw[az e'];refine mO ((lg ?_).trans ?_)
    ·simp[bF,ae,iu,ag,aM,aB,dQ,nA];omega
    ·simp[dZ,ae,iu,ag,aM,aB,dQ,jQ]
def ahead(like:bK)(f:bK×Int):Bool:=kB (dD f) (wL like)
def putL(fs:dX)(like:bK)(m:Int):dX:=fs.takeWhile (ahead like)++(match fs.dropWhile (ahead like) with
  |b::B=>if b.1=like then(like,b.2+m)::B else(like,m)::b::B
  |[]=>[(like,m)])
def jD(fs:dX)(r:bK×Int):dX:=if 0<r.2 then putL fs (dk r.1) r.2 else fs
def tO(rs:dX):dX:=rs.foldl jD []
def fF(fs:dX):Prop:=fs.Pairwise fun a b=>kB (dD a) (dD b)=true
theorem mZ(fs:dX)(like:bK):fs=fs.takeWhile (ahead like)++fs.dropWhile (ahead like):=(List.takeWhile_append_dropWhile).symm
theorem Be(A B:dX)(k:bK):bO (A++B) k=match bO A k with|some v=>some v|none=>bO B k:=by
  induction A with
  |nil=>rfl
  |cons a A ih =>
   rw[List.cons_append,cn,cn];by_cases e:a.1=k
   ·rw[ay e,ay e]
   ·rw[az e,az e];exact ih
theorem Bf{A:dX}{k:bK}(h:∀f∈A,f.1≠k):bO A k=none:=sI.mpr fun z=>by obtain⟨f,h1,h2⟩:=gC.mp z;exact h f h1 h2
theorem K8{a b:bK×Int}(h:a.1=b.1):dD a=dD b:=by unfold dD;rw[h]
theorem ue{fs:dX}{f:bK×Int}(h:f∈fs.takeWhile (ahead like)):kB (dD f) (wL like)=true:=by have:=eU.mp (List.all_takeWhile (l:=fs) (p:=ahead like)) f h;exact this
theorem N3{fs:dX}{b:bK×Int}{B:dX}(h:fs.dropWhile (ahead like)=b::B):kB (dD b) (wL like)=false:=by
  induction fs with
  |nil=>cases h
  |cons f fs ih =>
   rw[List.dropWhile_cons] at h;split at h
   ·exact ih h
   · rename_i q;cases h;have q':¬ kB (dD b) (wL like)=true:=q;cases e:kB (dD b) (wL like) with
     |false=>rfl
     |true=>exact absurd e q'
theorem ne_of_lt{f:bK×Int}(h:kB (dD f) (wL like)=true):f.1≠like:=fun e=>by
  have:dD f=wL like:=by unfold dD wL;rw[e]
  rw[this,kY] at h;cases h
theorem ne_of_gt{f:bK×Int}(h:kB (wL like) (dD f)=true):f.1≠like:=fun e=>by
  have:dD f=wL like:=by unfold dD wL;rw[e]
  rw[this,kY] at h;cases h
theorem behind{fs:dX}(hr:fF fs){b:bK×Int}{B:dX}(h:fs.dropWhile (ahead like)=b::B):(b.1=like∨kB (wL like) (dD b)=true)∧∀f∈B,kB (wL like) (dD f)=true:=by
  have hd:(b::B).Pairwise fun a b=>kB (dD a) (dD b)=true:=by
    have:fF (fs.takeWhile (ahead like)++fs.dropWhile (ahead like)):=by rw[←mZ];exact hr
    have:=(List.pairwise_append.mp this).2.1;rw[h] at this;exact this
  obtain⟨h1,h2⟩:=List.pairwise_cons.mp hd;have Eo:=N3 h;have hb:b.1=like∨kB (wL like) (dD b)=true:=by
    by_cases e:b.1=like
    ·exact .inl e
    ·refine .inr (tT (fun z=>e ?_) Eo);unfold dD wL at z;injection z
  refine⟨hb,fun f hf=>?_⟩;rcases hb with e|e
  · have:dD b=wL like:=by unfold dD wL;rw[e]
    rw[←this];exact h1 f hf
  ·exact rN e (h1 f hf)
theorem Hj{fs:dX}(hr:fF fs)(like:bK)(m:Int):fF (putL fs like m):=by
  have h0:fF (fs.takeWhile (ahead like)++fs.dropWhile (ahead like)):=by rw[←mZ];exact hr
  obtain⟨p1,p2,p3⟩:=List.pairwise_append.mp h0;have lk:∀v:Int,dD (like,v)=wL like:=fun _=>rfl;unfold putL;cases hB:fs.dropWhile (ahead like) with
  |nil =>
   refine List.pairwise_append.mpr ⟨p1,List.pairwise_singleton _ _,fun a ha b hb=>?_⟩;have e:b=(like,m):=by simpa using hb
   rw[e,lk];exact ue ha
  |cons b B =>
   obtain⟨hb,Wc⟩:=behind hr hB;rw[hB] at p2 p3;obtain⟨q1,q2⟩:=List.pairwise_cons.mp p2;show fF (_++(if b.1=like then(like,b.2+m)::B else(like,m)::b::B));by_cases e:b.1=like
   · rw[ay e];refine List.pairwise_append.mpr ⟨p1,List.pairwise_cons.mpr ⟨fun f hf=>by rw[lk];exact Wc f hf,q2⟩,fun a ha f hf=>?_⟩;rcases dm.mp hf with rfl|hf
     ·rw[lk];exact ue ha
     ·exact p3 a ha f (et _ hf)
   · rw[az e];have Bs:=hb.resolve_left e;refine List.pairwise_append.mpr ⟨p1,List.pairwise_cons.mpr ⟨fun f hf=>?_,p2⟩,fun a ha f hf=>?_⟩
     · rw[lk];rcases dm.mp hf with rfl|hf
       ·exact Bs
       ·exact Wc f hf
     · rcases dm.mp hf with rfl|hf
       ·rw[lk];exact ue ha
       ·exact p3 a ha f hf
theorem K9{fs:dX}(hr:fF fs)(like:bK)(m:Int)(k:bK):bO (putL fs like m) k=if k=like then some ((bO fs like).getD 0+m) else bO fs k:=by
  have hA:bO (fs.takeWhile (ahead like)) like=none:=Bf fun f hf=>ne_of_lt (ue hf);have QD:∀k,bO fs k=match bO (fs.takeWhile (ahead like)) k with|some v=>some v|none=>bO (fs.dropWhile (ahead like)) k:=fun k=>by rw[←Be,←mZ]
  unfold putL;rw[Be];cases hB:fs.dropWhile (ahead like) with
  |nil =>
   have h1:=QD like;rw[hA,hB] at h1;have Ce:bO fs like=none:=h1;by_cases e:k=like
   ·rw[ay e,e,hA,Ce];show bO [(like,m)] like=_;rw[cn,ay rfl];simp
   · rw[az e,QD k,hB];have e0:bO [(like,m)] k=none:=by
       rw[cn,az (show ¬ like=k from fun z=>e z.symm)];rfl
     show(match bO (fs.takeWhile (ahead like)) k with|some v=>some v|none=>bO [(like,m)] k)=_;rw[e0];rfl
  |cons b B =>
   obtain⟨hb,Wc⟩:=behind hr hB;show(match bO (fs.takeWhile (ahead like)) k with|some v=>some v|none=>bO (if b.1=like then(like,b.2+m)::B else(like,m)::b::B) k)=_;by_cases eb:b.1=like
   · rw[ay eb];have h1:=QD like;rw[hA,hB] at h1;have Ce:bO fs like=some b.2:=by rw[h1];show bO (b::B) like=_;rw[cn,ay eb]
     by_cases e:k=like
     ·rw[ay e,e,hA,Ce];show bO ((like,b.2+m)::B) like=_;rw[cn,ay rfl];rfl
     ·rw[az e,QD k,hB,cn,cn,az (show ¬ like=k from fun z=>e z.symm),az (show ¬ b.1=k from fun z=>e (z.symm.trans eb))]
   · rw[az eb];have h1:=QD like;rw[hA,hB] at h1;have Ce:bO fs like=none:=by
       rw[h1];refine Bf fun f hf=>?_;rcases dm.mp hf with rfl|hf
       ·exact eb
       ·exact ne_of_gt (Wc f hf)
     by_cases e:k=like
     ·rw[ay e,e,hA,Ce];show bO ((like,m)::b::B) like=_;rw[cn,ay rfl];simp
     ·rw[az e,QD k,hB,cn,az (show ¬ like=k from fun z=>e z.symm)]
theorem FG{fs:dX}(h:fF fs):(fs.map (·.1)).Nodup:=by unfold List.Nodup;rw[List.pairwise_map];exact h.imp fun {a b} pC e=>by rw[K8 e,kY] at pC;cases pC
theorem N4{fs gs:dX}(hf:fF fs)(hg:fF gs)(h:∀k,bO fs k=bO gs k):fs=gs:=by
  have nd:∀{l:dX},fF l→l.Nodup:=fun {l} hl=>hl.imp fun {a b} pC e=>by rw[e,kY] at pC;cases pC
  have hp:fs.Perm gs:=(List.perm_ext_iff_of_nodup (nd hf) (nd hg)).mpr fun x=>by
    constructor
    ·intro hx;exact mX (by rw[←h];exact nK (FG hf) (show(x.1,x.2)∈fs from hx))
    ·intro hx;exact mX (by rw[h];exact nK (FG hg) (show(x.1,x.2)∈gs from hx))
  exact List.Perm.eq_of_pairwise (le:=fun a b=>kB (dD a) (dD b)=true) (fun a b _ _ h1 h2=>by have:=rN h1 h2;rw[kY] at this;cases this) hf hg hp
theorem Bg(hp:zv c ps):fF (jC ps):=by
  unfold jC fF;rw[List.pairwise_map];refine List.Pairwise.imp_of_mem (fun {a b} ha hb pC=>?_) (Am (FD hp));obtain⟨_,_,_,e1⟩:=pd hp ha;obtain⟨_,_,_,e2⟩:=pd hp hb;have ea:dD (a.2,(bO ps a.2).getD 0)=a:=by unfold dD;exact Prod.ext e1.symm rfl
  have eb:dD (b.2,(bO ps b.2).getD 0)=b:=by unfold dD;exact Prod.ext e2.symm rfl
  rw[ea,eb];exact pC
theorem Dv(hp:zv c ps)(k:bK):bO (jC ps) k=bO ps k:=by
  have La:=mY hp;have nd2:((jC ps).map (·.1)).Nodup:=(La.map _).nodup_iff.mpr hp.nd;cases e:bO ps k with
  |some v=>exact nK nd2 (La.mem_iff.mpr (mX e))
  |none=>refine sI.mpr fun z=>sI.mp e ?_;exact(La.map _).mem_iff.mp z
theorem Lb(h0:0≤c)(h:lH c rs):∀{fs ps:dX},zv c ps→fF fs→(∀k,bO fs k=bO ps k)→fF (rs.foldl jD fs)∧∀k,bO (rs.foldl jD fs) k=bO (rs.foldl gN ps) k:=by
  induction rs with
  |nil=>intro fs ps _ hf hg;exact⟨hf,hg⟩
  |cons r rs ih =>
   intro fs ps hp hf hg;have hr:=h r eR;have hr1:lH c [r]:=fun x hx=>by
     have e:x=r:=by simpa using hx
     rw[e];exact hr
   have hp1:zv c (gN ps r):=(qX (rs:=[r]) h0 hr1 hp).1;rw[List.foldl_cons,List.foldl_cons];refine ih (fun x hx=>h x (et _ hx)) hp1 ?_ fun k=>?_
   · unfold jD;split
     ·exact Hj hf _ _
     ·exact hf
   · unfold jD gN;by_cases q:0<r.2
     ·rw[ay q,ay q,K9 hf,K5,hg,hg]
     ·rw[az q,az q];exact hg k
theorem FH(h0:0≤c)(h:lH c rs):tO rs=jC (lV rs):=by have hP:zv c (lV rs):=(qX (ps:=[]) h0 h ⟨List.nodup_nil,fun _ h=>nomatch h⟩).1;obtain⟨a,b⟩:=Lb h0 h (fs:=[]) (ps:=[]) ⟨List.nodup_nil,fun _ h=>nomatch h⟩ List.Pairwise.nil fun _=>rfl;refine N4 a (Bg hP) fun k=>?_;rw[Dv hP];exact b k
theorem Bh:∀(a b:bK),Aj (a.map D.int) (b.map D.int)=decide (a=b)
  |[],[]=>by rw[rq,Aj];rfl
  |[],y::b=>by rw[kX (by simp)];simp
  |x::a,[]=>by rw[kX (by simp)];simp
  |x::a,y::b=>by rw[cB,cB,Aj,Bh a b,dj];rw[pG];simp
theorem N5(a:bK)(n:Nat):(D.tup (a.map D.int)).iN (n+1)=true:=by rw[Q8];exact M4 _ _
theorem N6(a b:bK):dF (.tup (a.map D.int)) (.tup (b.map D.int))=some (.bl (decide (a=b))):=by unfold dF;rw[az (by simp[Ct,GA]),ay (by simp[GH,N5]),dj,Bh]
theorem Hk(f:bK×Int):(aS f).nP=true:=by unfold aS;rw[Ex];simp only[List.all_cons,List.all_nil,Bool.and_true,p6];rw[Ex];exact Jf _
theorem FI{fs:dX}{f:bK×Int}(h:fs[j]?=some f):rJ (fs.map aS) (j:Int)=some (aS f):=kN (by rw[eS,h];rfl)
theorem Bi(f:bK×Int):iQ (aS f) (.int 0)=some (.tup (f.1.map D.int)):=rfl
theorem Lc(f:bK×Int):iQ (aS f) (.int 1)=some (.int f.2):=rfl
theorem Ld{R:eY}{N M:eY}(fs:dX)(like:bK)(j:Nat):nI [R,some (.ol (fs.map aS)),N,M,some (.sh (.tup (like.map D.int))),some (.sh (.int (j:Int)))]=some (match fs[j]? with|some f=>ahead like f|none=>false):=by
  unfold nI;cases h:fs[j]? with
  |none=>have hj:fs.length≤j:=List.getElem?_eq_none_iff.mp h;have hd:decide ((j:Int)<((fs.map aS).length:Nat))=false:=gQ (by rw[fG];omega);simp only[eX,bF,ae,aB,iu,ag,aM,dQ,cS,dO,cf,eD,jQ,hd];rfl
  |some f=>have hj:j<fs.length:=(kJ.mp h).1;have hd:decide ((j:Int)<((fs.map aS).length:Nat))=true:=mh (by rw[fG];omega);simp only[eX,bF,ae,aB,eV,eI,eC,iu,bD,ag,aM,dQ,cS,dO,cf,eD,jQ,hd,cw,uN,FI h,Hk,Bi,K7];rfl
theorem FJ{R N M:eY}(fs:dX)(like:bK):∀(A:dX) (pre:dX) (n:Nat),fs=pre++A→A.length<n→kW nI nH n [R,some (.ol (fs.map aS)),N,M,some (.sh (.tup (like.map D.int))),some (.sh (.int (pre.length:Int)))]=some (.nx [R,some (.ol (fs.map aS)),N,M,some (.sh (.tup (like.map D.int))),some (.sh (.int ((pre.length+(A.takeWhile (ahead like)).length:Nat):Int)))])
  |[],pre,n+1,he,hn=>by
   unfold kW;rw[Ld];have:fs[pre.length]?=none:=by rw[he];simp
   rw[this];simp
  |f::A,pre,n+1,he,hn=>by
   have hf:fs[pre.length]?=some f:=by rw[he];simp
   have ht:=Ld (R:=R) (N:=N) (M:=M) fs like pre.length;rw[hf] at ht;unfold kW;rw[ht];simp only[cf];rw[List.takeWhile_cons];by_cases q:ahead like f=true
   · rw[ay q,ay q];have hg:nH [R,some (.ol (fs.map aS)),N,M,some (.sh (.tup (like.map D.int))),some (.sh (.int (pre.length:Int)))]=some (.nx [R,some (.ol (fs.map aS)),N,M,some (.sh (.tup (like.map D.int))),some (.sh (.int ((pre++[f]).length:Int)))]):=by
       unfold nH;simp[cy,ae,aB,eC,eA]
     rw[hg];have ih:=FJ (R:=R) (N:=N) (M:=M) fs like A (pre++[f]) n (by rw[he];simp) (by simp at hn;omega);simp only[cf];rw[ih];have e:(pre++[f]).length+(A.takeWhile (ahead like)).length=pre.length+(f::A.takeWhile (ahead like)).length:=by simp;omega
     rw[e]
   ·rw[az q,az q];simp
theorem Le(fs:dX)(like:bK)(m:Int):(putL fs like m).length≤fs.length+1:=by
  have e:=fS List.length (mZ fs like);rw[lZ] at e;unfold putL;rw[lZ];cases h:fs.dropWhile (ahead like) with
  |nil=>rw[h] at e;simp at e⊢;omega
  |cons b B=>rw[h] at e;simp only[eT] at e;show _+(if b.1=like then(like,b.2+m)::B else(like,m)::b::B).length≤_;split<;>simp only[eT]<;>omega
theorem RQ{R:eY}{fs:dX}(hl:fs.length<90)(r:bK×Int)(o4 o5:eY):∃SR o5',nJ [R,some (.ol (fs.map aS)),some (.br (.tup (r.1.map D.int))),some (.br (.int r.2)),o4,o5]=some (.nx [R,some (.ol ((jD fs r).map aS)),some (.br (.tup (r.1.map D.int))),some (.br (.int r.2)),SR,o5']):=by
  unfold nJ
  let like:=dk r.1
  have U2:jk (eL (fM 1 [2] (dE (eC (.int 6))) (aU true 0) (bF (ae (inD false) (aB 0) (aB 1))) (eV 0))) [R,some (.ol (fs.map aS)),some (.br (.tup (r.1.map D.int))),some (.br (.int r.2)),o4,o5]=some (.tup (like.map D.int)):=by
    have hr:(if (6:Int)≤10000∧-10000≤(6:Int) then some (cA 0 (6:Int).toNat) else none)=some ((List.range 6).map fun(i:Nat)=>D.int (0+(i:Int))):=rfl;have q:fL (aU true 0) (bF (ae (inD false) (aB 0) (aB 1))) (eV 0) ((List.range 6).map fun(i:Nat)=>D.int (0+(i:Int))) (List.replicate 1 none++[some (.br (.tup (r.1.map D.int)))])=some (like.map D.int):=by
      have h:=nz (b:=aU true 0) (t:=bF (ae (inD false) (aB 0) (aB 1))) (f:=eV 0) (η:=List.replicate 1 none++[some (.br (.tup (r.1.map D.int)))]) (fun(i:Nat)=>D.int (0+(i:Int))) (fun i=>r.1.contains (i:Int)) (fun i=>D.int (i:Int)) (xs:=List.range 6) (fun i _=>by
        refine⟨[some (.sh (.int (0+(i:Int)))),some (.br (.tup (r.1.map D.int)))],rfl,?_,fun _=>?_⟩
        ·have q:=M3 (n:=(i:Int)) (ms:=r.1) (S:=.tup (r.1.map D.int)) rfl;simp only[bF,ae,aB,cS,dO,cf,Int.zero_add,q]
        ·simp[eV])
      rw[h];show _=some ((dk r.1).map D.int);unfold dk NS.nameSet;rw[fA];rfl
    simp only[jk,eL,fM,dE,eC,cf,hr,oK,cB,rq,cS,dO,Option.getD_some,q,eD,fK]
  refine⟨some (.sh (.tup (like.map D.int))),some (.sh (.int (((fs.takeWhile (ahead like)).length:Nat):Int))),?_⟩;refine(aC (bW U2)).trans ?_;refine(aC (bW (d:=.int 0) rfl)).trans ?_;simp only[jd,jF];have hw:=FJ (R:=R) (N:=some (.br (.tup (r.1.map D.int)))) (M:=some (.br (.int r.2))) fs like fs [] 100 rfl (by omega);simp only[List.length_nil,Nat.zero_add] at hw;refine(aC hw).trans ?_;have BW:=mZ fs like;have hal:(fs.takeWhile (ahead like)).length≤fs.length:=List.IsPrefix.length_le (List.takeWhile_prefix _);by_cases q:0<r.2
  · have BH:jD fs r=putL fs like r.2:=by unfold jD;rw[ay q]
    rw[BH];cases hB:fs.dropWhile (ahead like) with
    |nil =>
     have hlen:(fs.takeWhile (ahead like)).length=fs.length:=by have:=fS List.length BW;rw[hB,xH] at this;exact this.symm
     refine(ef ?_).trans ?_
     ·have hd:decide (((fs.takeWhile (ahead like)).length:Int)<((fs.map aS).length:Nat))=false:=gQ (by rw[fG];omega);have h0:decide (0<r.2)=true:=mh q;simp only[eX,bF,ae,aB,eC,iu,ag,aM,dQ,cS,dO,cf,eD,lL,jQ,hd,h0,cw];rfl
     · refine(lg (by simp[bF,ae,aB,eC,lL,q])).trans ?_;have hz:0≤(((fs.takeWhile (ahead like)).length:Nat):Int)∧(((fs.takeWhile (ahead like)).length:Nat):Int).toNat≤(fs.map aS).length∧(fs.map aS).length<10000:=⟨by omega,by rw[fG];omega,by rw[fG];omega⟩
       simp only[qy,eV,oN,ag,aM,cS,dO,cf,eD,p6,cw];rw[ay (by simp)];simp only[cf,hz,and_self,cw,jd,jF];rw[rj,hlen,List.take_of_length_le (by rw[fG];exact bG _),List.drop_of_length_le (by rw[fG];exact bG _)];unfold putL;rw[hB,wa];have e:fs.takeWhile (ahead like)=fs:=by rw[hB,xH] at BW;exact BW.symm
       rw[e];rfl
    |cons b B =>
     have hb:fs[(fs.takeWhile (ahead like)).length]?=some b:=by
       have h1:(fs.takeWhile (ahead like)++b::B)[(fs.takeWhile (ahead like)).length]?=some b:=by simp
       rw[←hB,←BW] at h1;exact h1
     have dY:(fs.takeWhile (ahead like)).length<fs.length:=(kJ.mp hb).1;have Fe:=FI hb;have hd:decide (((fs.takeWhile (ahead like)).length:Int)<((fs.map aS).length:Nat))=true:=mh (by rw[fG];omega);have h0:decide (0<r.2)=true:=mh q;have heq:dF (.tup (b.1.map D.int)) (.tup (like.map D.int))=some (.bl (decide (b.1=like))):=N6 b.1 like;have htest:eX (bF (ae HC (aB 3) (eC (.int 0)))) (eX (bF (ae yh (aB 5) (iu dQ (ag (aB 1) aM)))) (bF (ae dF (ae iQ (ae iQ (aB 1) (aB 5)) (eC (.int 0))) (aB 4)))) [R,some (.ol (fs.map aS)),some (.br (.tup (r.1.map D.int))),some (.br (.int r.2)),some (.sh (.tup (like.map D.int))),some (.sh (.int (((fs.takeWhile (ahead like)).length:Nat):Int)))]=some (decide (b.1=like)):=by simp only[eX,bF,ae,aB,eC,iu,ag,aM,dQ,cS,dO,cf,eD,lL,jQ,hd,h0,cw,uN,Fe,Bi,heq]
     by_cases eb:b.1=like
     · rw[mh eb] at htest;refine(lg htest).trans ?_;have X2:LY (fs.map aS).length (((fs.takeWhile (ahead like)).length:Nat):Int)=some (fs.takeWhile (ahead like)).length:=by
         unfold LY;rw[ay (by omega),ay (by rw[fG];omega)];simp
       simp only[M0,oN,eV,ae,aB,eC,ag,aM,cS,dO,cf,eD,uN,Fe,Lc,eA];rw[ay (by simp)];simp only[cf,X2,eD,jd,jF];have e:(fs.map aS).set (fs.takeWhile (ahead like)).length (.tup [.tup (like.map D.int),.int (b.2+r.2)])=(putL fs like r.2).map aS:=by
         unfold putL;rw[hB];show _=((fs.takeWhile (ahead like))++(if b.1=like then(like,b.2+r.2)::B else(like,r.2)::b::B)).map aS;rw[ay eb];have e1:fs.map aS=(fs.takeWhile (ahead like)).map aS++aS b::B.map aS:=by
           have h1:(fs.takeWhile (ahead like)++b::B).map aS=(fs.takeWhile (ahead like)).map aS++aS b::B.map aS:=by rw[wa];rfl
           rw[←hB,←BW] at h1;exact h1
         rw[e1,wa];have U3:(fs.takeWhile (ahead like)).length=((fs.takeWhile (ahead like)).map aS).length:=(fG _).symm
         conv=>lhs;rw[U3]
         rw[List.set_append_right _ _ (bG _),Nat.sub_self];rfl
       rw[e]
     · rw[gQ eb] at htest;refine(ef htest).trans ?_;refine(lg (by simp[bF,ae,aB,eC,lL,q])).trans ?_;have hz:0≤(((fs.takeWhile (ahead like)).length:Nat):Int)∧(((fs.takeWhile (ahead like)).length:Nat):Int).toNat≤(fs.map aS).length∧(fs.map aS).length<10000:=⟨by omega,by rw[fG];omega,by rw[fG];omega⟩
       simp only[qy,eV,oN,ag,aM,cS,dO,cf,eD,p6,cw];rw[ay (by simp)];simp only[cf,hz,and_self,cw,jd,jF];have e:(fs.map aS).take (((fs.takeWhile (ahead like)).length:Nat):Int).toNat++D.tup [.tup (like.map D.int),.int r.2]::(fs.map aS).drop (((fs.takeWhile (ahead like)).length:Nat):Int).toNat=(putL fs like r.2).map aS:=by
         rw[rj];unfold putL;rw[hB];show _=((fs.takeWhile (ahead like))++(if b.1=like then(like,b.2+r.2)::B else(like,r.2)::b::B)).map aS;rw[az eb];have e1:fs.map aS=(fs.takeWhile (ahead like)).map aS++aS b::B.map aS:=by
           have h1:(fs.takeWhile (ahead like)++b::B).map aS=(fs.takeWhile (ahead like)).map aS++aS b::B.map aS:=by rw[wa];rfl
           rw[←hB,←BW] at h1;exact h1
         rw[e1,wa];have U3:(fs.takeWhile (ahead like)).length=((fs.takeWhile (ahead like)).map aS).length:=(fG _).symm
         conv=>lhs;rw[U3]
         rw[List.take_left,List.drop_left];rfl
       rw[e]
  · have BH:jD fs r=fs:=by unfold jD;rw[az q]
    rw[BH];have h0:decide (0<r.2)=false:=gQ q;refine(ef ?_).trans ?_
    ·simp only[eX,bF,ae,aB,eC,cS,dO,cf,lL,h0];rfl
    ·refine(ef ?_).trans rfl;simp only[bF,ae,aB,eC,cS,dO,cf,lL,h0]
theorem Hl(fs:dX)(r:bK×Int):(jD fs r).length≤fs.length+1:=by
  unfold jD;split
  ·exact Le _ _ _
  ·omega
theorem Lf(rs:dX)(hl:rs.length≤70):uc [.lst (rs.map aS)]=some (.ol ((tO rs).map aS)):=by
  obtain⟨η',e,o2,o3,o4,o5,_,rfl⟩:=lh (b:=j7 2 (bY (aU false 2) (bY (aU false 3) j6))) (g:=nJ) aS (fun i (fs:dX) η=>∃o2 o3 o4 o5,fs.length≤i∧η=[some (.br (.lst (rs.map aS))),some (.ol (fs.map aS)),o2,o3,o4,o5]) jD (xs:=rs)
    (η:=[some (.br (.lst (rs.map aS))),some (.ol []),none,none,none,none]) 0 [] ⟨none,none,none,none,bG _,rfl⟩ (fun i x fs η hx ⟨o2,o3,o4,o5,hf,e⟩=>by
      subst e;have hi:=(kJ.mp hx).1;obtain⟨SR,o5',q⟩:=RQ (R:=some (.br (.lst (rs.map aS)))) (fs:=fs) (by omega) x o4 o5;refine⟨_,_,rfl,q,_,_,_,_,?_,rfl⟩;have:=Hl fs x;omega)
  refine jR ?_;show zb [some (.br (.lst (rs.map aS))),none,none,none,none,none]=_;unfold zb;refine(aC (ny (d:=[]) rfl)).trans ?_;refine(aC ((gd (ds:=rs.map aS) rfl).trans e)).trans ?_;rfl
theorem Lg{T:bK}(h:T.length≤100):dJ (n+2) [.tup (T.map D.int),.tup (T.map D.int)]=some (.sh (.bl true)):=by refine Bd (by rw[fG];omega) fun y hy=>?_;obtain⟨i,_,rfl⟩:=gC.mp hy;exact same_int n i
theorem Dw{hs:dX}(hl:hs.length≤100)(h:∀x∈hs,x.1.length≤100):dJ 6 [.lst (hs.map aS),.lst (hs.map aS)]=some (.sh (.bl true)):=by
  refine K6 (by rw[fG];omega) fun y hy=>?_;obtain⟨x,hx,rfl⟩:=gC.mp hy;unfold aS;refine Bd (by simp) fun y hy=>?_;simp only[dm,List.not_mem_nil,or_false] at hy;rcases hy with rfl|rfl
  ·exact Lg (n:=2) (h x hx)
  ·exact same_int 3 _
def Cd(l:List Nat):Prop:=∀c∈l,97≤c∧c≤122
theorem Dx{a b:List Nat}(h:a.length+b.length≤1000):AG (.str (tx a)) (.str (tx b))=some (.str (tx (a++b))):=by show(if (tx a).length+(tx b).length≤1000 then some (D.str (tx a++tx b)) else none)=_;rw[jB,jB,ay h,Dt]
theorem Pz{l:List Nat}{c:Nat}(hl:l.length≤1000)(h:l[k]?=some c):Nj (.str (tx l)) (.int (k:Int))=some (.str (tx [c])):=by show(if (tx l).length≤1000 then(rJ (tx l).cps.toList (k:Int)).map (fun c=>D.str ⟨#[c]⟩) else none)=_;rw[jB,ay hl,Ds,kN h];rfl
theorem N7(h:k<26):lets[k]?=some (97+k):=by unfold lets;rw[eS,List.getElem?_range h];rfl
theorem Lh(h:k<26):Nj (.str fj) (.int (k:Int))=some (.str (tx [97+k])):=by rw[vJ];exact Pz (by decide) (N7 h)
theorem PB(y:Int):∃k:Nat,k<26∧y%26=(k:Int):=by have h0:=pF y (show(26:Int)≠0 by decide);have h1:=sY y (show(0:Int)<26 by decide);exact⟨(y%26).toNat,by omega,by omega⟩
theorem Dy(ns:bK)(k:Nat):cY [.lst (ns.map D.int),.int (k:Int)]=some (.sh (.int (ns.getD k 0))):=by
  by_cases h:k<ns.length
  · have h1:(k:Int)<((ns.map D.int).length:Nat):=by simp;omega
    have h2:rJ (ns.map D.int) (k:Int)=some (.int ns[k]):=kN (by simp[h])
    simp[cY,pD,iG,sE,bj,iM,bF,ae,aB,eV,iu,ag,aM,dQ,dZ,eC,yh,iI,iQ,bS,h,h2]
  ·simp[cY,pD,iG,sE,bj,iM,bF,ae,aB,eV,iu,ag,aM,dQ,dZ,eC,yh,iI,iQ,bS,h]
abbrev gK(c:Int)(b:List Nat)(y:Int)(o:eY):aY:=[some (.sh (.int c)),some (.sh (.int 12)),some (.sh (.str (tx b))),some (.sh (.int y)),o]
theorem Bj(c:Int)(b:List Nat)(y k:Int)(hb:b.length≤100)(hj:j<26)(e:y%26=(j:Int)):cy 2 (ae AG (aB 2) (ae Nj (eC (.str fj)) (ae cL (aB 3) (eC (.int 26))))) (gK c b y (some (.sh (.int k))))=some (.nx (gK c (b++[97+j]) y (some (.sh (.int k))))):=by have hm:iw y 26=true:=rfl;have h1:=Lh hj;have h2:=Dx (a:=b) (b:=[97+j]) (by simp;omega);refine bW (d:=.str (tx (b++[97+j]))) ?_;simp only[ae,aB,eC,gK,cS,dO,cf,cj hm,e,h1,h2]
theorem N8(hc:c%2=0)(b:List Nat)(y k:Int)(hb:b.length≤100)(h0:0≤y)(h1:y<2147483647):∃j<26,iy (gK c b y (some (.sh (.int k))))=some (.nx (gK c (b++[97+j]) ((y*y+48271*y+k+1)%2147483647) (some (.sh (.int k))))):=by
  have hm:∀x,iw x 2147483647=true:=fun _=>rfl;have wA:∀x,iw x 2=true:=fun _=>rfl;have h4:mulC y y=true:=yp (by omega) (by omega);have h5:mulC 48271 y=true:=Cy (by decide) (by decide);obtain⟨j,hj,e⟩:=PB ((y*y+48271*y+k+1)%2147483647);refine⟨j,hj,?_⟩;unfold iy;refine(aC (η':=gK c b ((y*y+48271*y+k+1)%2147483647) (some (.sh (.int k)))) ((lg ?_).trans ?_)).trans ?_
  ·simp[bF,ae,aB,eC,gK,cj (wA _),df,hc]
  ·refine bW ?_;simp[ae,aB,eC,gK,cj (hm _),oU h4,oU h5,eA]
  refine(aC (Bj c b _ k hb hj e)).trans ?_;refine(ef ?_).trans rfl;simp[bF,ae,aB,eC,gK,cj (wA _),df,hc]
theorem N9(hc:c%2=1)(b:List Nat)(y k:Int)(hb:b.length≤100):∃j<26,iy (gK c b y (some (.sh (.int k))))=some (.nx (gK c (b++[97+j]) (y / 26) (some (.sh (.int k))))):=by
  have wA:∀x,iw x 2=true:=fun _=>rfl;have hd:divC y 26=true:=rfl;obtain⟨j,hj,e⟩:=PB y;refine⟨j,hj,?_⟩;unfold iy;refine(aC (η':=gK c b y (some (.sh (.int k)))) ((ef ?_).trans rfl)).trans ?_
  ·simp[bF,ae,aB,eC,gK,cj (wA _),df,hc]
  refine(aC (Bj c b _ k hb hj e)).trans ?_;refine(lg ?_).trans ?_
  ·simp[bF,ae,aB,eC,gK,cj (wA _),df,hc]
  ·refine bW ?_;simp[ae,aB,eC,gK,div_ii hd]
theorem Cd.snoc{b:List Nat}(h:Cd b)(hj:j<26):Cd (b++[97+j]):=fun c hc=>by
  rcases md.mp hc with q|q
  ·exact h c q
  · have:c=97+j:=by simpa using q
    omega
theorem RT(c:Int):∃b:List Nat,b.length=12∧Cd b∧vw [.int c,.int 12]=some (.sh (.str (tx b))):=by
  have hd:divC c 2=true:=rfl;have hm:∀x,iw x 2=true:=fun _=>rfl;have start:∀(y:Int) (η':aY),(iM (bF (ae dF (ae cL (aB 0) (eC (.int 2))) (eC (.int 0)))) (cy 3 (ae cL (ae fZ (ae wz (ae cL (aB 3) (eC (.int 2147483647))) (eC (.int 16807))) (eC (.int 11))) (eC (.int 2147483647)))) bS (gK c [] (c / 2) none)=some (.nx (gK c [] y none)))→j8 (aU true 4) iy (cA 0 12) (gK c [] y none)=some (.nx η')→∀b y' o,η'=gK c b y' o→vw [.int c,.int 12]=some (.sh (.str (tx b))):=fun y η' hs hf b y' o e=>by subst e;refine jR ?_;show Dp [some (.sh (.int c)),some (.sh (.int 12)),none,none,none]=_;unfold Dp;refine(aC (bW (d:=.str (tx [])) rfl)).trans ?_;refine(aC (bW (d:=.int (c / 2)) (by simp[ae,aB,eC,div_ii hd]))).trans ?_;refine(aC hs).trans ?_;exact(aC ((gd (ds:=cA 0 12) rfl).trans hf)).trans rfl
  by_cases h:c%2=1
  · obtain⟨η',e,b,y,o,h1,h2,rfl⟩:=jm (b:=aU true 4) (g:=iy) (ds:=cA 0 12) (η:=gK c [] (c / 2) none)
      (fun i η=>∃(b:List Nat) (y:Int) (o:eY),b.length=i∧Cd b∧η=gK c b y o) 0
      ⟨[],c / 2,none,rfl,(fun _ h=>nomatch h),rfl⟩ (fun i d η hd ⟨b,y,o,h1,h2,e⟩=>by
        subst e;rw[hJ,eS] at hd;obtain⟨k,hk,rfl⟩:=iB.mp hd;have hi:i<12:=by have:=(kJ.mp hk).1;simpa using this
        obtain⟨j,hj,q⟩:=N9 h b y k (by omega);exact⟨gK c b y (some (.sh (.int k))),_,rfl,.inl q,b++[97+j],_,_,by simp;omega,h2.snoc hj,rfl⟩)
    refine⟨b,h1,h2,start _ _ ?_ e _ _ _ rfl⟩;refine(ef ?_).trans rfl;simp[bF,ae,aB,eC,gK,cj (hm _),df,h]
  · have h':c%2=0:=by omega
    obtain⟨η',e,b,y,o,h1,h2,_,_,rfl⟩:=jm (b:=aU true 4) (g:=iy) (ds:=cA 0 12) (η:=gK c [] ((c / 2%2147483647*16807+11)%2147483647) none)
      (fun i η=>∃(b:List Nat) (y:Int) (o:eY),b.length=i∧Cd b∧0≤y∧y<2147483647∧η=gK c b y o) 0
      ⟨[],_,none,rfl,(fun _ h=>nomatch h),pF _ (by decide),sY _ (by decide),rfl⟩ (fun i d η hd ⟨b,y,o,h1,h2,h3,h4,e⟩=>by
        subst e;rw[hJ,eS] at hd;obtain⟨k,hk,rfl⟩:=iB.mp hd;have hi:i<12:=by have:=(kJ.mp hk).1;simpa using this
        obtain⟨j,hj,q⟩:=N8 h' b y k (by omega) h3 h4;exact⟨gK c b y (some (.sh (.int k))),_,rfl,.inl q,b++[97+j],_,_,by simp;omega,h2.snoc hj,pF _ (by decide),sY _ (by decide),rfl⟩)
    refine⟨b,h1,h2,start _ _ ?_ e _ _ _ rfl⟩;have RV:∀x,iw x 2147483647=true:=fun _=>rfl;have wA:mulC (c / 2%2147483647) 16807=true:=yp (by decide) (by decide);refine(lg ?_).trans (bW ?_)
    ·simp[bF,ae,aB,eC,gK,cj (hm _),df,h']
    ·simp[ae,aB,eC,gK,cj (RV _),oU wA,eA]
def wordAt(b:List Nat)(p s k:Nat):List Nat:=b.take p++[97+(b.getD p 0-97+3*k)%26]++(b.drop (p+1)).take (s-(p+1))
theorem RW{b:List Nat}(hb:b.length=12)(hc:Cd b){p s:Nat}(hp:p<s)(hs:s≤12)(hk:k<6):y9 [.str (tx b),.int (p:Int),.int (s:Int),.int (k:Int)]=some (.sh (.str (tx (wordAt b p s k)))):=by
  have hpb:p<b.length:=by omega
  have Fe:b[p]?=some b[p]:=eP hpb;have hr:=hc b[p] (List.getElem_mem hpb);have hg:b.getD p 0=b[p]:=by rw[jb,Fe];rfl
  have h1:=Pz (l:=b) (k:=p) (c:=b[p]) (by omega) Fe
  have h2:findD (.str fj) (.str (tx [b[p]]))=some (.int ((b[p]-97:Nat):Int)):=by have:=K4 (b[p]-97) (by omega);rw[show 97+(b[p]-97)=b[p] by omega] at this;show some (D.int (Txt.find fj (tx [b[p]])))=_;rw[this]
  have h3:mulC 3 (k:Int)=true:=Cy (by decide) (by decide);have hm:∀x,iw x 26=true:=fun _=>rfl;have e4:((((b[p]-97:Nat):Int)+3*(k:Int))%26)=(((b[p]-97+3*k)%26:Nat):Int):=by omega
  have h4:=Lh (k:=(b[p]-97+3*k)%26) (Nat.mod_lt _ (by decide));refine jR ?_;show Dq [some (.sh (.str (tx b))),some (.sh (.int p)),some (.sh (.int s)),some (.sh (.int k)),none,none]=_;unfold Dq;refine(aC (bW (d:=.str fj) rfl)).trans ?_;refine(aC (bW (d:=.str (tx [97+(b[p]-97+3*k)%26])) ?_)).trans ?_
  ·simp only[ae,aB,eC,jd,jF,cS,dO,cf,h1,h2,oU h3,eA,cj (hm _),e4,h4]
  refine oV ?_;have s1:=Fv b p (by omega);have s2:=A7 b (p+1) s (by omega) (by omega);have c1:=Dx (a:=b.take p) (b:=[97+(b[p]-97+3*k)%26]) (by simp;omega);have c2:=Dx (a:=b.take p++[97+(b[p]-97+3*k)%26]) (b:=(b.drop (p+1)).take (s-(p+1))) (by simp;omega);have hl:(tx b).length≤1000:=by rw[jB];omega
  have e5:(p:Int)+1=((p+1:Nat):Int):=by omega
  simp only[ae,aB,eC,CT,Ag,gM,jd,jF,cS,dO,cf,eD,eA,hl,cw,s1,c1,e5,s2,c2];rw[wordAt,hg]
theorem Dz{b:List Nat}(hb:b.length=12){p s:Nat}(hp:p<s)(hs:s≤12):(wordAt b p s k).length=s:=by unfold wordAt;simp;omega
theorem Hm{b:List Nat}(hc:Cd b)(p s k:Nat):Cd (wordAt b p s k):=fun c h=>by
  unfold wordAt at h;rcases md.mp h with h|h
  · rcases md.mp h with h|h
    ·exact hc c (List.mem_of_mem_take h)
    · have:c=97+(b.getD p 0-97+3*k)%26:=by simpa using h
      omega
  ·exact hc c (List.mem_of_mem_drop (List.mem_of_mem_take h))
theorem DC{b:List Nat}(hb:b.length=12){p s k':Nat}(hp:p<12)(hk:k<6)(L1:k'<6)(h:wordAt b p s k=wordAt b p s k'):k=k':=by
  have e:=fS (fun l:List Nat=>l[p]?) h;have hl:(b.take p).length=p:=by simp;omega
  have key:∀k,(wordAt b p s k)[p]?=some (97+(b.getD p 0-97+3*k)%26):=fun k=>by unfold wordAt;rw[xC (by simp;omega),xB (by omega),hl];simp
  simp only[key] at e;have e':97+(b.getD p 0-97+3*k)%26=97+(b.getD p 0-97+3*k')%26:=jG e;omega
theorem DF(lo:Int)(m:Nat):(cA lo m).length=m:=by simp[cA]
structure kI (ws:List (List Nat)):Prop where
  one:1≤ws.length
  six:ws.length≤6
  nd:ws.Nodup
  len:∀w∈ws,1≤w.length∧w.length≤12
  cd:∀w∈ws,Cd w
theorem RX{l:List (List Nat)}(h:l.Nodup):l.reverse.Nodup:=by unfold List.Nodup at h⊢;rw[List.pairwise_reverse];exact h.imp fun {a b} pC e=>pC e.symm
theorem kI.rev(h:kI ws):kI ws.reverse :=
  ⟨by simpa using h.one,by simpa using h.six,RX h.nd,fun w hw=>h.len w (by simpa using hw),fun w hw=>h.cd w (by simpa using hw)⟩
def wD(ws:List (List Nat)):eZ:=ws.map fun w=>D.str (tx w)
theorem Li(ws:List (List Nat)):(wD ws).reverse=wD ws.reverse:=by unfold wD;rw[List.map_reverse]
theorem uf(ws:List (List Nat)):wD ws=(ws.map tx).map D.str:=by unfold wD;rw[fA];rfl
theorem Oa(ns:bK){m:Nat}(h1:1≤m)(h6:m≤6):∃ws,kI ws∧ub [.lst (ns.map D.int),.int 1,.int (m:Int)]=some (.ol (wD ws)):=by
  obtain⟨b,hb,hc,eb⟩:=RT (ns.getD 2 0)
  let cell:=ns.getD 1 0
  obtain⟨s,hs1,ku,es⟩:∃s:Nat,1≤s∧s≤12∧1+cell%12=(s:Int):=by have h0:=pF cell (show(12:Int)≠0 by decide);have h1:=sY cell (show(0:Int)<12 by decide);exact⟨(1+cell%12).toNat,by omega,by omega,by omega⟩
  obtain⟨p,hp,ep⟩:∃p:Nat,p<s∧cell / 48%(s:Int)=(p:Int):=by have h0:=pF (cell / 48) (show(s:Int)≠0 by omega);have h1:=sY (cell / 48) (show(0:Int)<(s:Int) by omega);exact⟨(cell / 48%(s:Int)).toNat,by omega,by omega⟩
  let f:Nat→List Nat:=fun k=>if cell / 12%4=1 then b.take (k+1) else wordAt b p s k
  have U4:cY [.lst (ns.map D.int),.int 1]=some (.sh (.int cell)):=Dy ns 1;have RZ:cY [.lst (ns.map D.int),.int 2]=some (.sh (.int (ns.getD 2 0))):=Dy ns 2;have X5:divC cell 48=true:=rfl;have U5:divC cell 12=true:=rfl;have hm4:∀x,iw x 4=true:=fun _=>rfl;have X6:∀x,iw x 12=true:=fun _=>rfl;have nX:∀x,iw x (s:Int)=true:=fun x=>Cz (by omega)
  let env:List (List Nat)→eY→eY→aY:=fun ws o7 o8=>[some (.sh (.lst (ns.map D.int))),some (.sh (.int 1)),some (.sh (.int (m:Int))),some (.sh (.int cell)),some (.sh (.int (s:Int))),some (.sh (.str (tx b))),some (.ol (wD ws)),o7,o8]
  obtain⟨η',e,o7,o8,rfl⟩:=jm (b:=aU true 7) (g:=sF) (ds:=cA 0 m) (η:=env [] none none)
    (fun i η=>∃o7 o8,η=env ((List.range i).map f) o7 o8) 0 ⟨none,none,rfl⟩ (fun i d η hd ⟨o7,o8,e⟩=>by
      subst e;rw[Nat.zero_add];rw[hJ,eS,eS] at hd;obtain⟨k,hk,rfl⟩:=iB.mp hd;obtain⟨k',L1,rfl⟩:=iB.mp hk;have hi:i<m:=by have:=(kJ.mp L1).1;simpa using this
      rw[List.getElem?_range hi] at L1;cases L1;rw[Int.zero_add];have ew:=RW hb hc hp ku (show i<6 by omega);have s1:=Fv b (i+1) (by omega);have hl:(tx b).length≤1000:=by rw[jB];omega
      have e5:(i:Int)+1=((i+1:Nat):Int):=by omega
      refine⟨env ((List.range i).map f) (some (.sh (.int i))) o8,env ((List.range (i+1)).map f) (some (.sh (.int i))) (some (.sh (.str (tx (f i))))),rfl,.inl ?_,_,_,rfl⟩;unfold sF;refine(aC (bW (d:=.str (tx (wordAt b p s i))) ?_)).trans ?_
      ·simp only[bD,ag,aM,eV,aB,ae,eC,env,cS,dO,cf,eD,div_ii X5,cj (nX _),ep,ew]
      refine(aC (η':=env ((List.range i).map f) (some (.sh (.int i))) (some (.sh (.str (tx (f i)))))) ?_).trans ?_
      · by_cases q:cell / 12%4=1
        · refine(lg ?_).trans ?_
          ·simp[bF,ae,aB,eC,env,div_ii U5,cj (hm4 _),df,q]
          ·have hf:f i=b.take (i+1):=ay q;rw[hf];refine bW ?_;simp only[CT,ae,aB,eC,Ag,gM,env,jd,jF,cS,dO,cf,eD,eA,hl,cw,e5,s1]
        · refine(ef ?_).trans ?_
          ·simp[bF,ae,aB,eC,env,div_ii U5,cj (hm4 _),df,q]
          ·have hf:f i=wordAt b p s i:=az q;rw[hf];rfl
      · have hz:(wD ((List.range i).map f)).length<10000:=by simp[wD];omega
        simp only[ic,eV,env,cS,dO,cf,hz,cw,jd,jF];rw[List.range_succ,wa];simp[wD])
  rw[DF,Nat.zero_add] at e;have fl:∀k<6,1≤(f k).length∧(f k).length≤12∧Cd (f k):=fun k hk=>by
    simp only[f];split
    ·exact⟨by simp;omega,by simp;omega,fun c h=>hc c (List.mem_of_mem_take h)⟩
    ·have:=Dz (k:=k) hb hp ku;exact⟨by omega,by omega,Hm hc _ _ _⟩
  have fi:∀k<6,∀k'<6,f k=f k'→k=k':=fun k hk k' L1 h=>by
    simp only[f] at h;split at h
    ·have:=fS List.length h;simp at this;omega
    ·exact DC hb (by omega) hk L1 h
  refine⟨(List.range m).map f,⟨by simp;omega,by simp;omega,?_,?_,?_⟩,jR ?_⟩
  ·unfold List.Nodup;rw[List.pairwise_map];refine List.Pairwise.imp_of_mem (fun {a b} ha hb pC=>?_) (List.nodup_range (n:=m));have h1:=mj.mp ha;have h2:=mj.mp hb;exact fun z=>pC (fi a (by omega) b (by omega) z)
  ·intro w hw;obtain⟨k,hk,rfl⟩:=gC.mp hw;have:=fl k (by have:=mj.mp hk;omega);exact⟨this.1,this.2.1⟩
  ·intro w hw;obtain⟨k,hk,rfl⟩:=gC.mp hw;exact(fl k (by have:=mj.mp hk;omega)).2.2
  · show za [some (.sh (.lst (ns.map D.int))),some (.sh (.int 1)),some (.sh (.int (m:Int))),none,none,none,none,none,none]=_;unfold za;refine(aC (bW (d:=.int cell) ?_)).trans ?_
    ·simp only[bD,ag,aM,eV,cS,dO,cf,eD,U4]
    refine(aC (bW (d:=.int (s:Int)) ?_)).trans ?_
    ·simp only[ae,aB,eC,jd,jF,cS,dO,cf,cj (X6 _),eA,es]
    refine(aC (bW (d:=.str (tx b)) ?_)).trans ?_
    ·have e2:(1:Int)+1=2:=rfl;simp only[bD,ag,aM,eV,ae,aB,eC,jd,jF,cS,dO,cf,eD,eA,e2,RZ,eb]
    refine(aC (ny (d:=[]) rfl)).trans ?_;have hr:dE (aB 2) (env [] none none)=some (cA 0 m):=by simp only[dE,aB,env,cS,dO,cf];rw[ay ⟨by omega,by omega⟩,rj]
    exact(aC ((gd hr).trans e)).trans rfl
theorem Lj{w:List Nat}(h1:1≤w.length)(h2:w.length≤12)(hc:Cd w):jU [.str (tx w)]=some (.sh (.bl true)):=by
  have hl:(tx w).length≤1000:=by rw[jB];omega
  refine jR ?_;show mW [some (.sh (.str (tx w)))]=_;unfold mW;refine(aC ((ef ?_).trans rfl)).trans ?_
  ·have e0:mK "str" (aB 0) [some (.sh (.str (tx w)))]=some (.bl true):=rfl;have a1:decide ((w.length:Int)<1)=false:=gQ (by omega);have a2:decide ((12:Int)<(w.length:Int))=false:=gQ (by omega);simp only[iP,jj,bF,e0,cf,eD,Bool.not_true,ae,iu,ag,aM,aB,eC,Kj,cS,cw,jB,(show w.length≤1000 by omega),jQ,lL,a1,a2];rfl
  refine oV ?_;have q:fL (aU true 0) jN (ae (Rp false) (aB 0) (eC (.str fj))) (w.map fun c=>D.str (tx [c])) [none]=some (w.map fun _=>D.bl true):=by
    refine kD (fun c:Nat=>D.str (tx [c])) (fun _=>D.bl true) fun c hm=>⟨[some (.sh (.str (tx [c])))],rfl,rfl,?_⟩
    have e:=NX c;rw[mh (hc c hm)] at e;simp only[ae,aB,eC,cS,cf,Rp,Bool.false_xor,e]
  have es:lr (tx w)=w.map fun c=>D.str (tx [c]):=by unfold lr;rw[Ds];rfl
  have eb:Km (w.map fun _=>D.bl true)=some (w.map fun _=>true):=by
    clear q es hl hc h1 h2;induction w with
    |nil=>rfl
    |cons c w ih=>rw[cB,Km,ih];rfl
  have ea:((w.map fun _=>true).all id)=true:=by rw[eU];intro x hx;obtain⟨_,_,rfl⟩:=gC.mp hx;rfl
  have q':fL (aU true 0) jN (ae (Rp false) (aB 0) (eC (.str "abcdefghijklmnopqrstuvwxyz"))) (w.map fun c=>D.str (tx [c])) (List.replicate 1 none++[])=some (w.map fun _=>D.bl true):=q;simp only[iu,ag,aM,eL,fM,yC,aB,cS,cf,hl,cw,es,oK,rq,q',eD,Nq,eb,ea]
theorem Bk{ys:dC}(h:ys.Nodup):∀i,i≤ys.length→NR.fN (fun i=>ys.getD i ⟨#[]⟩) i=ys.take i
  |0,_=>by rw[NR.fN,List.take_zero]
  |i+1,hi=>by
   have dY:i<ys.length:=by omega
   have ih:=Bk h i (by omega);have hg:ys.getD i ⟨#[]⟩=ys[i]:=by rw[jb,eP dY];rfl
   rw[NR.fN,ih,hg];have hn:ys[i]∉ys.take i:=fun z=>by
     obtain⟨j,hj,e⟩:=List.getElem_of_mem z;have Ja:j<i:=by rw[List.length_take] at hj;omega
     rw[List.getElem_take] at e;have:=(List.getElem_inj h).mp e;omega
   rw[az hn,List.take_succ,eP dY];rfl
theorem Lk{ys:dC}(h:ys.Nodup):AY ys=ys.length:=by unfold AY;rw[Bk h ys.length (bG _),List.take_length]
theorem U6(h:ws.Nodup):(ws.map tx).Nodup:=by unfold List.Nodup at h⊢;rw[List.pairwise_map];exact h.imp fun {a b} pC e=>pC (vH e)
theorem Ln(h:kI ws):gp [.lst (wD ws)]=some (.sh .non):=by
  obtain⟨η',e,o,rfl⟩:=kC (b:=aU false 1) (g:=ia) (fun w=>D.str (tx w)) (fun(_:Unit) η=>∃o,η=[some (.br (.lst (wD ws))),o]) (fun _ _=>()) (xs:=ws) (η:=[some (.br (.lst (wD ws))),none]) () ⟨_,rfl⟩ (fun w hw s η ⟨o,e⟩=>by
    subst e;refine⟨[some (.br (.lst (wD ws))),some (.br (.str (tx w)))],[some (.br (.lst (wD ws))),some (.br (.str (tx w)))],rfl,?_,_,rfl⟩;unfold ia;refine(ef ?_).trans rfl;simp only[jj,bF,bD,ag,aM,eV,cS,dO,cf,eD,Ey,cw,Lj (h.len w hw).1 (h.len w hw).2 (h.cd w hw),Bool.not_true])
  refine A9 (η:=[some (.br (.lst (wD ws))),o]) ?_;show jv [some (.br (.lst (wD ws))),none]=_;have hl:(wD ws).length=ws.length:=by simp[wD]
  have h1:=h.one;have h6:=h.six;unfold jv;refine(aC ((ef ?_).trans rfl)).trans ?_
  ·have a1:decide ((((wD ws).length:Nat):Int)<1)=false:=gQ (by omega);have a2:decide ((6:Int)<(((wD ws).length:Nat):Int))=false:=gQ (by omega);simp only[iP,bF,ae,iu,ag,aM,aB,eC,dQ,cS,cf,eD,jQ,lL,a1,a2];rfl
  refine(aC ((gd (ds:=ws.map fun w=>D.str (tx w)) ?_).trans e)).trans ?_
  · simp only[Jr,cS,cf,fK]
    first|rfl|(rw[ay (by simp[wD];omega)];rfl)
  refine(ef ?_).trans rfl;have e1:nZ (wD ws)=some (ws.map tx):=by rw[uf];exact nC _
  have e2:AY (ws.map tx)=ws.length:=by rw[Lk (U6 h.nd),fG]
  have e3:(ws.map tx).length≤1000:=by rw[fG];omega
  have a1:decide ((ws.length:Int)<(((wD ws).length:Nat):Int))=false:=gQ (by omega);simp only[bF,ae,yO,iu,ag,aM,aB,dQ,cS,cf,eD,e1,e3,cw,e2,jQ,a1]
theorem Bl(x:Str):∀ys:dC,O6 (.str x) (ys.map V.str)=decide (x∈ys)
  |[]=>rfl
  |y::ys=>by
   have ih:=Bl x ys;unfold O6 at ih⊢;rw[cB,List.any_cons,ih];have:Iv (.str y) (.str x)=decide (y=x):=by show(y==x)=_;rw[pG];simp
   rw[this,pG,Bool.or_eq_true,decide_eq_true_iff,decide_eq_true_iff,decide_eq_true_iff,dm];exact⟨fun h=>h.imp Eq.symm id,fun h=>h.imp Eq.symm id⟩
theorem xt:∀ys:dC,GB (ys.map D.str)=some (ys.map V.str)
  |[]=>rfl
  |y::ys=>by have ih:=xt ys;rw[cB,cB];simp only[GB,GA,ih,cf,eD]
theorem Lp(neg:Bool)(w:List Nat)(ws:List (List Nat)):inD neg (.str (tx w)) (.lst (wD ws))=some (.bl (if neg then !decide (w∈ws) else decide (w∈ws))):=by
  have e:decide (tx w∈ws.map tx)=decide (w∈ws):=by
    rw[pG,decide_eq_true_iff,decide_eq_true_iff];constructor
    ·intro h;obtain⟨v,hv,q⟩:=gC.mp h;rw[←vH q];exact hv
    ·exact fun h=>gC.mpr ⟨w,h,rfl⟩
  unfold inD;rw[uf];simp only[GA,fK,xt,cf,eD,Bl,e]
def idx(ws:List (List Nat))(w:List Nat):Nat:=ws.idxOf w
theorem Lq:∀(ws:List (List Nat)) (j:Nat) (h:j<ws.length),List.idxOf ws[j] ws≤j
  |[],_,h=>by simp at h
  |w::ws,0,_=>by simp[List.idxOf_cons]
  |w::ws,j+1,h=>by
   have hj:j<ws.length:=by simpa using h
   have ih:=Lq ws j hj;rw[List.getElem_cons_succ,List.idxOf_cons];cases(w==ws[j]) with
   |true=>exact iC _
   |false=>exact Nat.succ_le_succ ih
theorem Lr{w:List Nat}(h:w∈ws):u6 (.lst (wD ws)) (.str (tx w))=some (.int ((idx ws w:Nat):Int)):=by
  have e1:nZ (wD ws)=some (ws.map tx):=by rw[uf];exact nC _
  have e2:(ws.map tx).findIdx? (·==tx w)=some (idx ws w):=by
    rw[List.findIdx?_eq_some_iff_getElem];have dY:idx ws w<ws.length:=List.idxOf_lt_length_of_mem h;refine⟨by simpa using dY,?_,fun j hj=>?_⟩
    ·have:ws[idx ws w]=w:=List.getElem_idxOf dY;simp[this]
    · have Ja:j<ws.length:=by omega
      have lX:ws[j]≠w:=fun z=>by
        have h1:List.idxOf w ws≤j:=by rw[←z];exact Lq ws j Ja
        exact absurd hj (Nat.not_lt.mpr h1)
      simp only[List.getElem_map,beq_iff_eq];intro z;exact lX (vH z)
  simp only[u6,e1,cf,e2,eD]
def xu(ws vs:List (List Nat)):bK:=vs.map fun v=>((idx ws v:Nat):Int)
theorem DH{vs:List (List Nat)}(hv:∀v∈vs,v∈ws):∀n∈xu ws vs,0≤n∧n<(ws.length:Int):=fun n hn=>by obtain⟨v,h,rfl⟩:=gC.mp hn;have:idx ws v<ws.length:=List.idxOf_lt_length_of_mem (hv v h);omega
theorem Hn{y:Str}(h:x≠y):lT (.str x) (.str y)=some (.bl true):=by
  unfold lT;rw[ay (by rfl),dj];have:(x==y)=false:=by rw[beq_eq_false_iff_ne];exact h
  rw[this];rfl
theorem vK:∀{vs:List (List Nat)},(∀v∈vs,v.length≤12)→(vs.map List.length).sum≤vs.length*12
  |[],_=>iC _
  |v::vs,h=>by have h1:=h v eR;have h2:=vK (vs:=vs) fun w hw=>h w (et _ hw);rw[cB,List.sum_cons,eT];omega
theorem FK(h:kI ws){vs:List (List Nat)}(hv:∀v∈vs,v∈ws)(hl:vs.length≤4):eN [.lst (wD ws),.str (tx (jn vs))]=some (.sh (.tup ((dk (xu ws vs)).map D.int))):=by
  have h6:=h.six;have oG:((xu ws vs).all fun n=>decide (0≤n)&&decide (n<6))=true:=eU.mpr fun n hn=>by have:=DH hv n hn;simp;omega
  have fin:lE [some (.br (.lst (wD ws))),some (.sh (.str (tx (jn vs)))),none,none]=some (.rt (.sh (.tup ((dk (xu ws vs)).map D.int)))):=by
    unfold lE;refine(aC (ny (d:=[]) rfl)).trans ?_;refine(aC (η':=[some (.br (.lst (wD ws))),some (.sh (.str (tx (jn vs)))),some (.ol ((xu ws vs).map D.int)),(match vs.getLast? with|some v=>some (.sh (.str (tx v)))|none=>none)]) ?_).trans ?_
    · by_cases q:vs=[]
      ·subst q;exact(ef (by rfl)).trans rfl
      · have lX:jn vs≠[]:=U1 vs q fun w hw=>by
          have:=(h.len w (hv w hw)).1;intro z;rw[z] at this;simp at this
        have hw:∀w∈vs,32∉w:=fun w hw z=>by have:=h.cd w (hv w hw) 32 z;omega
        have hs:=K1 vs q hw;refine(lg ?_).trans ?_
        · have e:lT (.str (tx (jn vs))) (.str "")=some (.bl true):=by
            have e0:tx (jn vs)≠("":Str):=fun z=>lX (vH (z.trans (show("":Str)=tx [] by decide +kernel)));exact Hn e0
          simp only[bF,ae,aB,eC,jd,jF,cS,dO,cf,e]
        · have hlen:(tx (jn vs)).length≤1000:=by
            rw[jB];have:=K2 vs;have h2:(vs.map List.length).sum≤vs.length*12:=vK fun v xR=>(h.len v (hv v xR)).2;omega
          have hls:lS (eL (u3 (aB 1) (eC (.str " ")))) [some (.br (.lst (wD ws))),some (.sh (.str (tx (jn vs)))),some (.ol []),none]=some (vs.map fun v=>D.str (tx v)):=by
            have e1:CW (.str (tx (jn vs))) (.str " ")=some (vs.map fun v=>D.str (tx v)):=by
              have eb:(" ":Str)=⟨#[32]⟩:=by decide +kernel
              rw[eb];show(if ((⟨#[32]⟩:Str).length==0)=false∧(tx (jn vs)).length≤1000 then some ((Txt.split (tx (jn vs)) ⟨#[32]⟩).map D.str) else none)=_;rw[ay ⟨by decide,hlen⟩,hs,fA];rfl
            simp only[lS,eL,u3,aB,eC,cS,dO,cf,eD,e1,fK]
          obtain⟨η',e,ha,hb⟩:=lh (b:=aU true 3) (g:=jw) (fun v=>D.str (tx v)) (fun i (us:List (List Nat)) η=>us=vs.take i∧η=[some (.br (.lst (wD ws))),some (.sh (.str (tx (jn vs)))),some (.ol ((xu ws us).map D.int)),(match us.getLast? with|some v=>some (.sh (.str (tx v)))|none=>none)]) (fun us v=>us++[v]) (xs:=vs) (η:=[some (.br (.lst (wD ws))),some (.sh (.str (tx (jn vs)))),some (.ol []),none]) 0 [] ⟨rfl,rfl⟩ (fun i v us η hx ⟨hu,e⟩=>by
            subst e;rw[Nat.zero_add] at hu⊢;have hvm:=hv v (zx hx);refine⟨[some (.br (.lst (wD ws))),some (.sh (.str (tx (jn vs)))),some (.ol ((xu ws us).map D.int)),some (.sh (.str (tx v)))],_,rfl,?_,by rw[List.take_succ,hx,hu];rfl,rfl⟩;unfold jw;refine(aC ((ef ?_).trans rfl)).trans ?_
            ·have e:=Lp true v ws;rw[mh hvm] at e;simp only[bF,ae,aB,cS,dO,cf,e];rfl
            · have hz:((xu ws us).map D.int).length<10000:=by
                rw[fG,xu,fG,hu,List.length_take];omega
              simp only[ic,ae,aB,cS,dO,cf,Lr hvm,hz,cw,jd,jF];have e3:(us++[v]).getLast?=some v:=by simp
              rw[e3];simp[xu])
          rw[hb] at e;have PD:=ha;simp only[Nat.zero_add,List.take_length] at PD;rw[PD] at e;exact(gd hls).trans e
    ·refine oV ?_;simp only[jk,eL,oW,aB,cS,dO,cf,gY,oG,cw,eD,fK];unfold dk;rw[fA];rfl
  exact jR fin
theorem vL{p q:Nat→Bool}{n:Nat}(hp:∀k,k<n→p k=q k)(hn:∀k,n≤k→p k=false):∀m,n≤m→(List.range m).filter p=(List.range n).filter q
  |0,h=>by
   have:n=0:=by omega
   subst this;rfl
  |m+1,h=>by
   by_cases e:n=m+1
   ·subst e;exact List.filter_congr fun k hk=>hp k (mj.mp hk)
   ·rw[List.range_succ,List.filter_append,vL hp hn m (by omega)];simp[hn m (by omega)]
theorem R0(h:ws.Nodup)(hk:k<ws.length):idx ws ws[k]=k:=by have h1:idx ws ws[k]<ws.length:=List.idxOf_lt_length_of_mem (List.getElem_mem hk);have h2:ws[idx ws ws[k]]=ws[k]:=List.getElem_idxOf h1;exact(List.getElem_inj h).mp h2
def Bm(ws vs:List (List Nat)):bK:=((List.range ws.length).filter fun k=>decide (ws.getD k []∈vs)).map fun(k:Nat)=>(k:Int)
theorem Ho{vs:List (List Nat)}(h:kI ws)(hv:∀v∈vs,v∈ws):Bm ws vs=dk (xu ws vs):=by
  unfold Bm dk NS.nameSet
  congr 1
  refine(vL (fun k hk=>?_) (fun k hk=>?_) 6 h.six).symm
  · have hg:ws.getD k []=ws[k]:=by rw[jb,eP hk];rfl
    rw[hg,pG,xE,decide_eq_true_iff];unfold xu;constructor
    · intro z;obtain⟨v,h1,h2⟩:=gC.mp z;have h3:idx ws v=k:=by omega
      have h4:idx ws v<ws.length:=List.idxOf_lt_length_of_mem (hv v h1);have h5:ws[idx ws v]=v:=List.getElem_idxOf h4;have h6:ws[k]=v:=by rw[←h5];congr 1;exact h3.symm
      rw[h6];exact h1
    ·intro z;exact gC.mpr ⟨ws[k],z,by rw[R0 h.nd hk]⟩
  ·rw[Bool.eq_false_iff];intro z;have:=DH hv _ (xE.mp z);omega
theorem PH(hk:k<ws.length):rJ (wD ws) (k:Int)=some (.str (tx ws[k])):=kN (by unfold wD;rw[eS,eP hk];rfl)
theorem R1{vs:List (List Nat)}(h:kI ws):vz [.lst (wD ws),.lst (wD vs)]=some (.sh (.tup ((Bm ws vs).map D.int))):=by
  have h6:=h.six;refine jR ?_;show Dr [some (.sh (.lst (wD ws))),some (.sh (.lst (wD vs)))]=_;unfold Dr;refine oV ?_;have hl:((wD ws).length:Int)=(ws.length:Int):=by simp[wD]
  have hr:(if ((wD ws).length:Int)≤10000∧-10000≤((wD ws).length:Int) then some (cA 0 ((wD ws).length:Int).toNat) else none)=some ((List.range ws.length).map fun(i:Nat)=>D.int (0+(i:Int))):=by rw[hl,ay ⟨by omega,by omega⟩,rj];rfl
  have q:fL (aU true 0) (bF (ae (inD false) (ae iQ (aB 1) (aB 0)) (aB 2))) (eV 0) ((List.range ws.length).map fun(i:Nat)=>D.int (0+(i:Int))) (List.replicate 1 none++[some (.sh (.lst (wD ws))),some (.sh (.lst (wD vs)))])=some ((Bm ws vs).map D.int):=by
    have h:=nz (b:=aU true 0) (t:=bF (ae (inD false) (ae iQ (aB 1) (aB 0)) (aB 2))) (f:=eV 0) (η:=List.replicate 1 none++[some (.sh (.lst (wD ws))),some (.sh (.lst (wD vs)))]) (fun(i:Nat)=>D.int (0+(i:Int))) (fun i=>decide (ws.getD i []∈vs)) (fun i=>D.int (i:Int)) (xs:=List.range ws.length) (fun i hi=>by
      have hi:=mj.mp hi;have hg:ws.getD i []=ws[i]:=by rw[jb,eP hi];rfl
      refine⟨[some (.sh (.int (0+(i:Int)))),some (.sh (.lst (wD ws))),some (.sh (.lst (wD vs)))],rfl,?_,fun _=>?_⟩
      ·have e:=Lp false ws[i] vs;simp only[bF,ae,aB,cS,dO,cf,Int.zero_add,uN,PH hi,e,hg];rfl
      ·simp[eV])
    rw[h];unfold Bm;rw[fA];rfl
  simp only[jk,eL,fM,dE,iu,ag,aM,aB,dQ,cS,dO,cf,eD,hr,oK,cB,rq,Option.getD_some,q,fK]
theorem Ls(C M:D)(xs:bK)(y k:Int)(hx:xs.length≤100):nE [some (.sh C),some (.sh M),some (.ol (xs.map D.int)),some (.sh (.int y)),some (.sh (.int k))]=some (.nx [some (.sh C),some (.sh M),some (.ol ((xs++[y%5040]).map D.int)),some (.sh (.int (y / 5040))),some (.sh (.int k))]):=by
  have h1:iw y 5040=true:=rfl;have h2:divC y 5040=true:=rfl;unfold nE;have hl:xs.length<10000:=by omega
  simp[bj,ic,cy,ae,aB,eC,cj h1,div_ii h2,hl]
theorem Lv(C M:D)(xs:bK)(y k:Int)(hx:xs.length≤100)(h0:0≤y)(h1:y<2147483647):nF [some (.sh C),some (.sh M),some (.ol (xs.map D.int)),some (.sh (.int y)),some (.sh (.int k))]=some (.nx [some (.sh C),some (.sh M),some (.ol ((xs++[(y*y+48271*y+k+1)%2147483647]).map D.int)),some (.sh (.int ((y*y+48271*y+k+1)%2147483647))),some (.sh (.int k))]):=by
  have h3:∀x,iw x 2147483647=true:=fun _=>rfl;have h4:mulC y y=true:=yp (by omega) (by omega);have h5:mulC 48271 y=true:=Cy (by decide) (by decide);unfold nF;have hl:xs.length<10000:=by omega
  simp[bj,ic,cy,ae,aB,eV,eC,cj (h3 _),oU h4,oU h5,eA,hl]
theorem Ob(c:Int):∃xs:bK,xs.length=12∧qN [.int c,.int 12]=some (.ol (xs.map D.int)):=by
  have hd:divC c 2=true:=rfl;have hm:iw c 2=true:=rfl;by_cases h:c%2=1
  · obtain⟨η',e,xs,y,o,h1,rfl⟩:=jm (b:=aU true 4) (g:=nE) (ds:=cA 0 12) (η:=[some (.sh (.int c)),some (.sh (.int 12)),some (.ol []),some (.sh (.int (c / 2))),none])
      (fun i η=>∃(xs:bK) (y:Int) (o:eY),xs.length=i∧η=[some (.sh (.int c)),some (.sh (.int 12)),some (.ol (xs.map D.int)),some (.sh (.int y)),o]) 0
      ⟨[],c / 2,none,rfl,rfl⟩ (fun i d η hd ⟨xs,y,o,h1,e⟩=>by
        subst e;rw[hJ,eS] at hd;obtain⟨k,hk,rfl⟩:=iB.mp hd;have hi:i<12:=by have:=(kJ.mp hk).1;simpa using this
        exact⟨_,_,rfl,.inl (Ls _ _ xs y k (by omega)),xs++[y%5040],y / 5040,_,by simp;omega,rfl⟩)
    refine⟨xs,h1,jR ?_⟩;show qM [some (.sh (.int c)),some (.sh (.int 12)),none,none,none]=_;unfold qM;refine(aC (ny (d:=[]) rfl)).trans ?_;refine(aC (bW (d:=.int (c / 2)) (by simp[ae,aB,eC,div_ii hd]))).trans ?_;refine mO ?_;refine(lg (by simp[bF,ae,aB,eC,cj hm,df,h])).trans ?_;refine(aC ((gd (ds:=cA 0 12) rfl).trans e)).trans ?_;rfl
  · obtain⟨η',e,xs,y,o,h1,_,_,rfl⟩:=jm (b:=aU true 4) (g:=nF) (ds:=cA 0 12) (η:=[some (.sh (.int c)),some (.sh (.int 12)),some (.ol []),some (.sh (.int ((c / 2%2147483647*16807+11)%2147483647))),none])
      (fun i η=>∃(xs:bK) (y:Int) (o:eY),xs.length=i∧0≤y∧y<2147483647∧η=[some (.sh (.int c)),some (.sh (.int 12)),some (.ol (xs.map D.int)),some (.sh (.int y)),o]) 0
      ⟨[],_,none,rfl,pF _ (by decide),sY _ (by decide),rfl⟩ (fun i d η hd ⟨xs,y,o,h1,h3,h4,e⟩=>by
        subst e;rw[hJ,eS] at hd;obtain⟨k,hk,rfl⟩:=iB.mp hd;have hi:i<12:=by have:=(kJ.mp hk).1;simpa using this
        exact⟨_,_,rfl,.inl (Lv _ _ xs y k (by omega) h3 h4),xs++[(y*y+48271*y+k+1)%2147483647],_,_,by simp;omega,pF _ (by decide),sY _ (by decide),rfl⟩)
    refine⟨xs,h1,jR ?_⟩;show qM [some (.sh (.int c)),some (.sh (.int 12)),none,none,none]=_;unfold qM;refine(aC (ny (d:=[]) rfl)).trans ?_;refine(aC (bW (d:=.int (c / 2)) (by simp[ae,aB,eC,div_ii hd]))).trans ?_;refine(aC (η':=[some (.sh (.int c)),some (.sh (.int 12)),some (.ol []),some (.sh (.int (c / 2))),none]) ?_).trans ?_
    ·refine(ef (by simp[bF,ae,aB,eC,cj hm,df];simpa using h)).trans ?_;rfl
    have RV:∀x,iw x 2147483647=true:=fun _=>rfl;have wA:mulC (c / 2%2147483647) 16807=true:=yp (by decide) (by decide);refine(aC (bW (d:=.int ((c / 2%2147483647*16807+11)%2147483647)) (by simp[ae,aB,eC,cj (RV _),oU wA,eA]))).trans ?_;refine(aC ((gd (ds:=cA 0 12) rfl).trans e)).trans ?_;rfl
structure FL (c:Int) (ps:dX):Prop where
  nd:(ps.map (·.1)).Nodup
  all:∀p∈ps,nU c p.1∧0≤p.2
theorem FL.get(h:FL c ps)(k:bK):0≤(bO ps k).getD 0:=by
  cases e:bO ps k with
  |none=>exact Int.le_refl _
  |some m=>have:=(h.all _ (mX e)).2;simpa using this
theorem FL.put(h:FL c ps){k:bK}{m:Int}(hs:nU c k)(hm:0≤m):FL c (kG ps k m):=by
  refine⟨?_,fun p hp=>?_⟩
  · rw[xr];by_cases q:(ps.any fun p=>decide (p.1=k))=true
    ·rw[ay q];exact h.nd
    ·rw[az q];refine x5 h.nd fun hk=>q ?_;obtain⟨p,h1,h2⟩:=gC.mp hk;exact List.any_eq_true.mpr ⟨p,h1,mh h2⟩
  · unfold kG at hp;split at hp
    · obtain⟨p',h1,h2⟩:=gC.mp hp;by_cases e:p'.1=k
      ·rw[ay e] at h2;rw[←h2,e];exact⟨hs,hm⟩
      ·rw[az e] at h2;rw[←h2];exact h.all p' h1
    · rcases md.mp hp with q|q
      ·exact h.all p q
      · have e:p=(k,m):=by simpa using q
        rw[e];exact⟨hs,hm⟩
theorem Bn{m:Int}(h:1≤m):dB [.int m]=some (.sh .non):=by refine A9 (η:=[some (.sh (.int m))]) ?_;show jx [some (.sh (.int m))]=_;unfold jx;refine(ef ?_).trans rfl;have e0:mK "int" (aB 0) [some (.sh (.int m))]=some (.bl true):=rfl;have e1:mK "bool" (aB 0) [some (.sh (.int m))]=some (.bl false):=rfl;have a1:decide (m<1)=false:=gQ (by omega);simp only[iP,jj,bF,e0,e1,cf,eD,Bool.not_true,ae,aB,eC,cS,jQ,a1];rfl
theorem zj{own:List Nat}{g:SF}{vf:List Slot}{r:Slot}(h:g (ka n vf)=some (.rt r)):Bw n own g vf=some r:=by unfold Bw;rw[h]
section
variable {a:vo} {p q:Addr} {ws vs:List (List Nat)} {ps:dX} {m:Int}
theorem U7(h:kI ws)(hv:∀v∈vs,v∈ws)(hl:vs.length≤4)(hp:ps.length<10000)(hm:1≤m):eB a [.bx p a.aE (wD ws) (ps.map enc),.sh (.str (tx (jn vs))),.sh (.int m)]=some (.rw .non [(p,(kG ps (dk (xu ws vs)) ((bO ps (dk (xu ws vs))).getD 0+m)).map enc)]):=by
  have e1:=FK h hv hl
  let L:=dk (xu ws vs)
  have U8:=qU ps L ((bO ps L).getD 0+m);have hg:jW a [some (.bx p a.aE (wD ws) (ps.map enc)),some (.sh (.str (tx (jn vs)))),some (.sh (.int m)),none]=some (.nx [some (.bx p a.aE (wD ws) ((kG ps L ((bO ps L).getD 0+m)).map enc)),some (.sh (.str (tx (jn vs)))),some (.sh (.int m)),some (.sh (.tup (L.map D.int)))]):=by
    unfold jW;refine(aC (bW (d:=.tup (L.map D.int)) ?_)).trans ?_
    ·simp only[bD,ag,aM,mQ,eV,cS,dO,cw,cf,eD,e1];rfl
    refine(aC (η':=[some (.bx p a.aE (wD ws) (ps.map enc)),some (.sh (.str (tx (jn vs)))),some (.sh (.int m)),some (.sh (.tup (L.map D.int)))]) ?_).trans ?_
    ·simp only[lN,bD,ag,aM,eV,jd,jF,cS,dO,cf,eD,Bn hm]
    ·simp only[n5,ae,qA,Nt,SJ,aB,eC,cS,dO,cw,cf,ib,eD,kH,qW,eA,fG,hp,U8,jd]
  show Bw 4 [0] (jW a) _=_;unfold Bw;rw[show ka 4 [.bx p a.aE (wD ws) (ps.map enc),.sh (.str (tx (jn vs))),.sh (.int m)]=[some (.bx p a.aE (wD ws) (ps.map enc)),some (.sh (.str (tx (jn vs)))),some (.sh (.int m)),none] from rfl,hg];rfl
theorem R3(h:kI ws)(hv:∀v∈vs,v∈ws)(hl:vs.length≤4)(hp:ps.length<10000)(hm:1≤m)(ht:m≤(bO ps (dk (xu ws vs))).getD 0):dN a [.bx p a.aE (wD ws) (ps.map enc),.sh (.str (tx (jn vs))),.sh (.int m)]=some (.rw .non [(p,(kG ps (dk (xu ws vs)) ((bO ps (dk (xu ws vs))).getD 0-m)).map enc)]):=by
  have e1:=FK h hv hl
  let L:=dk (xu ws vs)
  have U8:=qU ps L ((bO ps L).getD 0-m);have hg:iW a [some (.bx p a.aE (wD ws) (ps.map enc)),some (.sh (.str (tx (jn vs)))),some (.sh (.int m)),none,none]=some (.nx [some (.bx p a.aE (wD ws) ((kG ps L ((bO ps L).getD 0-m)).map enc)),some (.sh (.str (tx (jn vs)))),some (.sh (.int m)),some (.sh (.tup (L.map D.int))),some (.sh (.int ((bO ps L).getD 0-m)))]):=by
    unfold iW;refine(aC (bW (d:=.tup (L.map D.int)) ?_)).trans ?_
    ·simp only[bD,ag,aM,mQ,eV,cS,dO,cw,cf,eD,e1];rfl
    refine(aC (η':=[some (.bx p a.aE (wD ws) (ps.map enc)),some (.sh (.str (tx (jn vs)))),some (.sh (.int m)),some (.sh (.tup (L.map D.int))),none]) ?_).trans ?_
    ·simp only[lN,bD,ag,aM,eV,jd,jF,cS,dO,cf,eD,Bn hm]
    refine(aC (bW (d:=.int ((bO ps L).getD 0-m)) ?_)).trans ?_
    ·simp only[ae,qA,Nt,aB,eC,cS,dO,cw,cf,ib,eD,kH,qW,Cw]
    refine(aC ((ef ?_).trans rfl)).trans ?_
    ·have a1:decide ((bO ps L).getD 0-m<0)=false:=gQ (by have ht':m≤(bO ps L).getD 0:=ht;omega);simp only[bF,ae,aB,eC,jd,jF,cS,dO,cf,jQ,a1]
    ·simp only[n5,ae,Nt,SJ,eV,aB,eC,jd,jF,cS,dO,cw,cf,ib,fG,hp,U8]
  show Bw 5 [0] (iW a) _=_;unfold Bw;rw[show ka 5 [.bx p a.aE (wD ws) (ps.map enc),.sh (.str (tx (jn vs))),.sh (.int m)]=[some (.bx p a.aE (wD ws) (ps.map enc)),some (.sh (.str (tx (jn vs)))),some (.sh (.int m)),none,none] from rfl,hg];rfl
theorem Oc(h:kI ws)(hq:FL (ws.length:Int) ps)(m8:ps.length≤1000){xs:bK}(hx:xs.length=12)(cell:Int):∃Bx,FL (ws.length:Int) Bx∧Bx.length≤ps.length+1∧qS a [.bx p a.aE (wD ws) (ps.map enc),.od q (ps.map enc),.sh (.lst (wD ws)),.sh (.lst (xs.map D.int)),.sh (.int cell)]=some (.rw .non [(p,Bx.map enc),(q,Bx.map enc)]):=by
  have h1:=h.one;have h6:=h.six;have at_:∀k:Nat,k<12→rJ (xs.map D.int) (k:Int)=some (.int (xs.getD k 0)):=fun k hk=>by
    have L1:k<xs.length:=by omega
    refine kN ?_;rw[eS,jb,eP L1];rfl
  have m5:∀x,iw x 5=true:=fun _=>rfl;have m9:∀x,iw x 9=true:=fun _=>rfl;have m3:∀x,iw x 3=true:=fun _=>rfl;have m2:∀x,iw x 2=true:=fun _=>rfl;have X7:powC 10 38=true:=by decide
  have X8:∀y:Int,iw y (10^(38:Int).toNat-1)=true:=fun y=>Cz (by decide)
  -- the words
  let nums:bK:=(xs.drop (HT.rh xs.length 0 (some 2))).take (HT.rh xs.length xs.length (some (2+xs.getD 1 0%5))-HT.rh xs.length 0 (some 2))
  have hnl:nums.length≤4:=by
    have e0:=pF (xs.getD 1 0) (show(5:Int)≠0 by decide);have e1:=sY (xs.getD 1 0) (show(0:Int)<5 by decide);obtain⟨k,hk,ek⟩:∃k:Nat,k≤4∧xs.getD 1 0%5=(k:Int):=⟨(xs.getD 1 0%5).toNat,by omega,by omega⟩
    refine gy (List.length_take_le _ _) ?_;have e2:(2:Int)+xs.getD 1 0%5=((2+k:Nat):Int):=by omega
    rw[e2,HT.tQ,show(2:Int)=((2:Nat):Int) from rfl,HT.tQ];omega
  let pk:Int→Nat:=fun n=>(n%(ws.length:Int)).toNat
  have Rj:∀n,pk n<ws.length∧n%(ws.length:Int)=(pk n:Int):=fun n=>by have e0:=pF n (show(ws.length:Int)≠0 by omega);have e1:=sY n (show(0:Int)<(ws.length:Int) by omega);simp only[pk];exact⟨by omega,by omega⟩
  let vs:List (List Nat):=nums.map fun n=>ws.getD (pk n) []
  have hv:∀v∈vs,v∈ws:=fun v hv=>by obtain⟨n,_,rfl⟩:=gC.mp hv;have:=(Rj n).1;rw[jb,eP this];exact List.getElem_mem this
  have hvl:vs.length≤4:=by simp only[vs];rw[fG];exact hnl
  let L:=dk (xu ws vs)
  have hL:nU (ws.length:Int) L:=A8 (by omega) (DH hv)
  let T:=(bO ps L).getD 0
  have hT:0≤T:=hq.get L
  let env (d:dX) (o5 o6 o7 o8 o9:eY):aY:=[some (.bx p a.aE (wD ws) (ps.map enc)),some (.od q (d.map enc)),some (.sh (.lst (wD ws))),some (.sh (.lst (xs.map D.int))),some (.sh (.int cell)),o5,o6,o7,o8,o9]
  have s5:cy 5 (eL (fM 1 [2] (lS (eL (mH (eV 3) (gM (eC (.int 2))) (gM (ae fZ (eC (.int 2)) (ae cL (ae iQ (aB 3) (eC (.int 1))) (eC (.int 5)))))))) (aU true 0) jN (ae iQ (eV 1) (ae cL (aB 0) (iu dQ (ag (aB 1) aM)))))) (env ps none none none none none)=some (.nx (env ps (some (.sh (.lst (wD vs)))) none none none none)):=by
    refine bW (d:=.lst (wD vs)) ?_;have hsl:mH (eV 3) (gM (eC (.int 2))) (gM (ae fZ (eC (.int 2)) (ae cL (ae iQ (aB 3) (eC (.int 1))) (eC (.int 5))))) (env ps none none none none none)=some (nums.map D.int):=by have a1:=at_ 1 (by decide);rw[show((1:Nat):Int)=1 from rfl] at a1;simp only[mH,eV,gM,ae,aB,eC,env,cS,dO,cf,eD,uN,a1,cj (m5 _),eA,EX];rfl
    have hq:fL (aU true 0) jN (ae iQ (eV 1) (ae cL (aB 0) (iu dQ (ag (aB 1) aM)))) (nums.map D.int) (List.replicate 1 none++[some (.sh (.lst (wD ws)))])=some (wD vs):=by
      have:wD vs=nums.map fun n=>D.str (tx (ws.getD (pk n) [])):=by simp only[wD,vs];rw[fA];rfl
      rw[this];refine kD D.int _ fun n _=>⟨[some (.sh (.int n)),some (.sh (.lst (wD ws)))],rfl,rfl,?_⟩
      obtain⟨k1,k2⟩:=Rj n;have hl:((wD ws).length:Int)=(ws.length:Int):=by simp[wD]
      have hmc:iw n (ws.length:Int)=true:=Cz (by omega);have hg:ws.getD (pk n) []=ws[pk n]:=by rw[jb,eP k1];rfl
      simp only[ae,eV,aB,iu,ag,aM,dQ,cS,dO,cf,eD,hl,cj hmc,k2,uN,PH k1,hg]
    simp only[eL,fM,lS,hsl,cf,eD,fK,oK,cB,rq,env,cS,dO,Option.getD_some,hq]
  have s6:cy 6 (bD vz (ag (eV 2) (ag (eV 5) aM))) (env ps (some (.sh (.lst (wD vs)))) none none none none)=some (.nx (env ps (some (.sh (.lst (wD vs)))) (some (.sh (.tup (L.map D.int)))) none none none)):=by refine bW (d:=.tup (L.map D.int)) ?_;have e:=R1 (vs:=vs) h;rw[Ho h hv] at e;simp only[bD,ag,aM,eV,env,cS,dO,cf,eD,e];rfl
  have s7:cy 7 (qA (Nu 1) (aB 6) (eC (.int 0))) (env ps (some (.sh (.lst (wD vs)))) (some (.sh (.tup (L.map D.int)))) none none none)=some (.nx (env ps (some (.sh (.lst (wD vs)))) (some (.sh (.tup (L.map D.int)))) (some (.sh (.int T))) none none)):=by refine bW (d:=.int T) ?_;simp only[qA,Nu,aB,eC,env,cS,dO,cf,ib,eD,kH,qW];rfl
  have s8:cy 8 (ae AH (eC (.str " ")) (aB 5)) (env ps (some (.sh (.lst (wD vs)))) (some (.sh (.tup (L.map D.int)))) (some (.sh (.int T))) none none)=some (.nx (env ps (some (.sh (.lst (wD vs)))) (some (.sh (.tup (L.map D.int)))) (some (.sh (.int T))) (some (.sh (.str (tx (jn vs))))) none)):=by
    refine bW (d:=.str (tx (jn vs))) ?_;have e1:nZ (wD vs)=some (vs.map tx):=by rw[uf];exact nC _
    have eb:(" ":Str)=⟨#[32]⟩:=by decide +kernel
    have hz:((vs.map tx).map (·.length)).sum+(vs.map tx).length*(⟨#[32]⟩:Str).length≤1000:=by
      have e2:(vs.map tx).map (·.length)=vs.map List.length:=by rw[fA];exact List.map_congr_left fun v _=>jB v
      have e3:(⟨#[32]⟩:Str).length=1:=rfl;have h2:(vs.map List.length).sum≤vs.length*12:=vK fun v xR=>(h.len v (hv v xR)).2;rw[e2,e3,fG];omega
    simp only[ae,eC,aB,env,cS,dO,cf,eb,AH,e1,hz,cw,NW]
  obtain⟨M,hM,s9⟩:∃M:Int,1≤M∧cy 9 (ae iQ (eL (uD (ag (eC (.int 1)) (ag (ae fZ (eC (.int 1)) (ae cL (ae iQ (aB 3) (eC (.int 7))) (eC (.int 9)))) (ag (ae fZ (eC (.int 1)) (ae cL (aB 4) (ae GC (ae ML (eC (.int 10)) (eC (.int 38))) (eC (.int 1))))) aM))))) (ae cL (ae iQ (aB 3) (eC (.int 8))) (eC (.int 3)))) (env ps (some (.sh (.lst (wD vs)))) (some (.sh (.tup (L.map D.int)))) (some (.sh (.int T))) (some (.sh (.str (tx (jn vs))))) none)=some (.nx (env ps (some (.sh (.lst (wD vs)))) (some (.sh (.tup (L.map D.int)))) (some (.sh (.int T))) (some (.sh (.str (tx (jn vs))))) (some (.sh (.int M))))):=by
    obtain⟨M,hM,e⟩:∃M:Int,1≤M∧rJ [D.int 1,.int (1+xs.getD 7 0%9),.int (1+cell%(10^(38:Int).toNat-1))] (xs.getD 8 0%3)=some (.int M):=by
      have h0:=pF (xs.getD 8 0) (show(3:Int)≠0 by decide);have h4:=sY (xs.getD 8 0) (show(0:Int)<3 by decide);have:xs.getD 8 0%3=0∨xs.getD 8 0%3=1∨xs.getD 8 0%3=2:=by omega
      rcases this with e|e|e<;>rw[e]
      ·exact⟨1,by decide,rfl⟩
      ·exact⟨_,by have:=pF (xs.getD 7 0) (show(9:Int)≠0 by decide);omega,rfl⟩
      ·exact⟨_,by have:=pF cell (show((10:Int)^(38:Int).toNat-1)≠0 by decide);omega,rfl⟩
    refine⟨M,hM,bW (d:=.int M) ?_⟩;have a7:=at_ 7 (by decide);have a8:=at_ 8 (by decide);rw[show((7:Nat):Int)=7 from rfl] at a7;rw[show((8:Nat):Int)=8 from rfl] at a8;simp only[ae,eL,uD,ag,aM,eC,aB,env,cS,dO,cf,eD,uN,a7,a8,cj (m9 _),cj (m3 _),Q7 X7,Cw,cj (X8 _),eA];rw[ay (by simp)];exact e
  have a0:=at_ 0 (by decide);have a9:=at_ 9 (by decide);rw[show((0:Nat):Int)=0 from rfl] at a0;rw[show((9:Nat):Int)=9 from rfl] at a9
  let en (d:dX) (m:Int):aY:=env d (some (.sh (.lst (wD vs)))) (some (.sh (.tup (L.map D.int)))) (some (.sh (.int T))) (some (.sh (.str (tx (jn vs))))) (some (.sh (.int m)))
  have x9:∀(d:dX) (m:Int),bF (ae dF (ae cL (ae iQ (aB 3) (eC (.int 9))) (eC (.int 2))) (eC (.int 1))) (en d m)=some (xs.getD 9 0%2==1):=fun d m=>by simp only[bF,ae,aB,eC,en,env,cS,dO,cf,uN,a9,cj (m2 _),df]
  have tst:∀(d:dX) (m:Int),eX (bF (ae dF (aB 9) (eC (.int 1)))) (bF (ae dF (ae cL (ae iQ (aB 3) (eC (.int 9))) (eC (.int 2))) (eC (.int 1)))) (en d m)=some (m==1&&xs.getD 9 0%2==1):=fun d m=>by
    have e0:bF (ae dF (aB 9) (eC (.int 1))) (en d m)=some (m==1):=by simp only[bF,ae,aB,eC,en,env,cS,dO,cf,df]
    unfold eX;rw[e0,cf,x9];cases(m==1)<;>rfl
  have U9:∀(v:Int) (m:Int) (f:EF),f (en ps m)=some (.int v)→n5 (Nu 1) (SK 1) (aB 6) f (en ps m)=some (.nx (en (kG ps L v) m)):=fun v m f hf=>by
    have U8:=qU ps L v;have dY:ps.length<10000:=by omega
    unfold n5;rw[hf];simp only[aB,Nu,SK,en,env,cS,dO,cf,ib,fG,dY,cw,U8,jd,jF]
  have fin:∀(fn:List Slot→eY) (d:dX) (m:Int),(∀k:Int,k=m→fn [.bx p a.aE (wD ws) (ps.map enc),.sh (.str (tx (jn vs))),.sh (.int k)]=some (.rw .non [(p,d.map enc)])) →
      bj (iM (eX (bF (ae dF (aB 9) (eC (.int 1)))) (bF (ae dF (ae cL (ae iQ (aB 3) (eC (.int 9))) (eC (.int 2))) (eC (.int 1))))) (lO a.aE 0 [0,1] (ag (eV 8) aM) [.int 1] fn) bS) (lO a.aE 0 [0,1] (ag (eV 8) (ag (eV 9) aM)) [] fn) (en d m)=some (.rt (.rw .non [(p,d.map enc),(q,d.map enc)])):=fun fn d m hf=>by
    have t:=tst d m;by_cases c:(m==1&&xs.getD 9 0%2==1)=true
    · rw[c] at t;have RV:(1:Int)=m:=by
        rw[oz] at c;exact(beq_iff_eq.mp c.1).symm
      refine mO ((lg t).trans ?_);have:=hf 1 RV;simp only[lO,en,env,ag,aM,eV,cS,dO,cw,cf,eD,gf,List.cons_append,List.nil_append,cB,rq,this,AQ,jd,jF]
    ·have c':=Bool.eq_false_iff.mpr c;rw[c'] at t;refine(aC ((ef t).trans rfl)).trans ?_;have:=hf m rfl;simp only[lO,en,env,ag,aM,eV,cS,dO,cw,cf,eD,gf,xH,cB,rq,this,AQ,jd,jF]
  have tt:eX (bF (ae dF (ae cL (ae iQ (aB 3) (eC (.int 0))) (eC (.int 3))) (eC (.int 0)))) (bF (ae HC (aB 7) (eC (.int 0)))) (en ps M)=some (xs.getD 0 0%3==0&&decide (0<T)):=by
    have e0:bF (ae dF (ae cL (ae iQ (aB 3) (eC (.int 0))) (eC (.int 3))) (eC (.int 0))) (en ps M)=some (xs.getD 0 0%3==0):=by simp only[bF,ae,aB,eC,en,env,cS,dO,cf,uN,a0,cj (m3 _),df]
    have e1:bF (ae HC (aB 7) (eC (.int 0))) (en ps M)=some (decide (0<T)):=by simp only[bF,ae,aB,eC,en,env,cS,dO,cf,lL]
    unfold eX;rw[e0,cf,e1];cases(xs.getD 0 0%3==0)<;>rfl
  have dY:ps.length<10000:=by omega
  have start:∀r,ud a (env ps none none none none none)=some (.rt r)→qS a [.bx p a.aE (wD ws) (ps.map enc),.od q (ps.map enc),.sh (.lst (wD ws)),.sh (.lst (xs.map D.int)),.sh (.int cell)]=some r:=fun r hr=>zj hr;by_cases c:(xs.getD 0 0%3==0&&decide (0<T))=true
  · rw[c] at tt;have hT0:0<T:=by rw[oz] at c;exact of_decide_eq_true c.2
    obtain⟨m2,h2a,h2b,s10⟩:∃m2:Int,1≤m2∧m2≤T∧∀G,bj (cy 9 (iu minD (ag (aB 9) (ag (aB 7) aM)))) (bj (iM (bF (ae dF (ae cL (ae iQ (aB 3) (eC (.int 9))) (eC (.int 3))) (eC (.int 0)))) (cy 9 (eV 7)) bS) G) (en ps M)=G (en ps m2):=by
      have e0:cy 9 (iu minD (ag (aB 9) (ag (aB 7) aM))) (en ps M)=some (.nx (en ps (if T<M then T else M))):=by refine bW (d:=.int (if T<M then T else M)) ?_;simp only[iu,ag,aM,aB,en,env,cS,dO,cf,eD,minD]
      have e1:bF (ae dF (ae cL (ae iQ (aB 3) (eC (.int 9))) (eC (.int 3))) (eC (.int 0))) (en ps (if T<M then T else M))=some (xs.getD 9 0%3==0):=by simp only[bF,ae,aB,eC,en,env,cS,dO,cf,uN,a9,cj (m3 _),df]
      by_cases c3:(xs.getD 9 0%3==0)=true
      ·rw[c3] at e1;exact⟨T,by omega,Int.le_refl _,fun G=>(aC e0).trans ((aC ((lg e1).trans (bW (d:=.int T) rfl))).trans rfl)⟩
      ·rw[Bool.eq_false_iff.mpr c3] at e1;exact⟨if T<M then T else M,by split<;>omega,by split<;>omega,fun G=>(aC e0).trans ((aC ((ef e1).trans rfl)).trans rfl)⟩
    refine⟨kG ps L (T-m2),hq.put hL (by omega),qV _ _ _,start _ ?_⟩;unfold ud;refine(aC s5).trans ((aC s6).trans ((aC s7).trans ((aC s8).trans ((aC s9).trans ?_))));refine mO ((lg tt).trans ?_);refine(s10 _).trans ?_;refine(aC (U9 (T-m2) m2 _ ?_)).trans ?_
    ·simp only[ae,aB,en,env,cS,dO,cf,Cw]
    ·exact fin (dN a) _ m2 fun k hk=>by subst hk;exact R3 h hv hvl dY h2a h2b
  · rw[Bool.eq_false_iff.mpr c] at tt;refine⟨kG ps L (T+M),hq.put hL (by omega),qV _ _ _,start _ ?_⟩;unfold ud;refine(aC s5).trans ((aC s6).trans ((aC s7).trans ((aC s8).trans ((aC s9).trans ?_))));refine(aC ((ef tt).trans rfl)).trans ?_;refine(aC (U9 (T+M) M _ ?_)).trans ?_
    ·simp only[ae,aB,en,env,cS,dO,cf,eA]
    ·exact fin (eB a) _ M fun k hk=>by subst hk;exact U7 h hv hvl dY hM
end
theorem FL.rows(h:FL c ps):lH c ps:=fun r hr=>⟨(h.all r hr).1.2,(h.all r hr).2⟩
theorem Hq(h0:∀p∈ps,0≤p.2)(hs:cP ps=0):tO ps=[]:=by
  have key:∀(l:dX),(∀p∈l,0≤p.2)→0≤cP l:=by
    intro l;induction l with
    |nil=>intro _;exact Int.le_refl _
    |cons x l ih=>intro h;have h1:=ih fun y hy=>h y (et _ hy);have h2:=h x eR;unfold cP at h1⊢;rw[cB,List.sum_cons];omega
  unfold tO;induction ps with
  |nil=>rfl
  |cons x l ih =>
   have h1:=key l fun y hy=>h0 y (et _ hy);have h2:=h0 x eR;have HB:x.2+cP l=0:=by unfold cP at hs⊢;rw[cB,List.sum_cons] at hs;exact hs
   rw[List.foldl_cons];have e:jD [] x=[]:=by unfold jD;rw[az (by omega)]
   rw[e];exact ih (fun y hy=>h0 y (et _ hy)) (by omega)
theorem Bo(ps:dX):(ps.map enc).map (·.2)=(ps.map fun r=>r.2).map D.int:=by rw[fA,fA];rfl
theorem vN(ps:dX):((ps.map enc).all fun kv=>kv.2.nP)=true:=by rw[List.all_map,eU];exact fun p _=>p6 p.2
theorem xx(ps:dX):kb (ps.map enc)=ps.map aS:=by unfold kb;rw[fA];refine List.map_congr_left fun p _=>?_;show D.tup [.tup ((p.1.map Sum.inl).map Q5),.int p.2]=aS p;rw[fA];rfl
section
variable {a:vo} {ws:List (List Nat)} {ps:dX}
theorem Lw:bZ a [.bb a.aE (wD ws) (ps.map enc)]=some (.sh (.int (cP ps))):=by refine zj ?_;show kh a [some (.bb a.aE (wD ws) (ps.map enc))]=_;unfold kh;refine oV ?_;simp only[Fi,V8,cS,cw,cf,Bo,gY,eD];rfl
theorem xA(h:η[0]?=some (some (.bb a.aE (wD ws) (ps.map enc)))):Nx a.aE 0 (bZ a) η=some (.int (cP ps)):=by simp only[Nx,SQ,UK,h,cw,cf,Lw]
theorem Lx(h:kI ws)(hq:FL (ws.length:Int) ps)(hl:ps.length≤60):cK a [.bb a.aE (wD ws) (ps.map enc)]=some (.ol ((tO ps).map aS)):=by
  have h1:=h.one;have h6:=h.six;refine zj ?_;show ki a [some (.bb a.aE (wD ws) (ps.map enc))]=_;unfold ki;have hc:bF (ae dF (Nx a.aE 0 (bZ a)) (eC (.int 0))) [some (.bb a.aE (wD ws) (ps.map enc))]=some (cP ps==0):=by simp only[bF,ae,eC,xA (η:=[some (.bb a.aE (wD ws) (ps.map enc))]) rfl,cf,df]
  by_cases q:cP ps=0
  ·rw[q] at hc;refine mO ((lg hc).trans ?_);rw[Hq (fun p hp=>(hq.all p hp).2) q];rfl
  · have q':(cP ps==0)=false:=by simpa using q
    rw[q'] at hc;refine(aC ((ef hc).trans rfl)).trans ?_;have hP:=qX (ps:=[]) (by omega:(0:Int)≤(ws.length:Int)) hq.rows ⟨List.nodup_nil,fun _ h=>nomatch h⟩;have hk:(lV ps).length<64:=by have:=hP.2;show(ps.foldl gN []).length<64;simp only[List.length_nil] at this;omega
    have eh:=Hi (by omega) (by omega) hq.rows q (by omega) hk;rw[←FH (by omega) hq.rows] at eh;refine EW ?_;have hlen:((wD ws).length:Int)=(ws.length:Int):=by simp[wD]
    have hz:(ps.map enc).length≤1000:=by rw[fG];omega
    have MC:fL (j7 2 (bY (aU true 0) (bY (aU true 1) j6))) jN (oN (ag (eL (xi (eV 0))) (ag (eV 1) aM))) (ps.map aS) (List.replicate 2 none++[])=some (ps.map dS):=by
      refine kD aS dS fun x _=>⟨[some (.sh (.tup (x.1.map D.int))),some (.sh (.int x.2))],rfl,rfl,?_⟩
      simp only[oN,eL,xi,eV,ag,aM,cS,dO,cf,eD,fK];rw[ay (by simp)];rfl
    simp only[EE,ag,aM,iu,mQ,dQ,eL,fM,yJ,V9,cS,cw,cf,eD,hlen,vN,hz,and_self,xx,oK,rq,MC,eh]
theorem Hr(h:kI ws)(hq:FL (ws.length:Int) ps)(hl:ps.length≤60)(e:η[0]?=some (some (.bb a.aE (wD ws) (ps.map enc)))):Px a.aE 0 (cK a) η=some ((tO ps).map aS):=by simp only[Px,SQ,UK,e,cw,cf,Lx h hq hl]
theorem Od(i:Int):qO [.int i]=some (.sh (.bl true)):=rfl
theorem Oe(h:kI ws)(hq:FL (ws.length:Int) ps)(hl:ps.length≤60)(b:Bool):lF a [.bb a.aE (wD ws) (ps.map enc),.bd (ps.map enc),.sh (.bl b)]=some (.sh (.bl true)):=by
  have h1:=h.one;have h6:=h.six;have hP:=qX (ps:=[]) (by omega:(0:Int)≤(ws.length:Int)) hq.rows ⟨List.nodup_nil,fun _ h=>nomatch h⟩;have heq:=FH (by omega:(0:Int)≤(ws.length:Int)) hq.rows;have hhs:∀x∈tO ps,x.1.length≤100:=fun x hx=>by rw[heq] at hx;have:=(hP.1.all x ((mY hP.1).mem_iff.mp hx)).1.le6 (by omega);omega
  have hhl:(tO ps).length≤100:=by
    have e:(jC (lV ps)).length=(lV ps).length:=(mY (show zv (ws.length:Int) (lV ps) from hP.1)).length_eq;have:(lV ps).length≤60:=by have:=hP.2;simp only[List.length_nil] at this;show(ps.foldl gN []).length≤60;omega
    rw[heq];omega
  have sm:=Dw hhl hhs;have el:=Lf ps (by omega);have hz:(ps.map enc).length≤1000:=by rw[fG];omega
  let en (o3 o4 o5:eY):aY:=[some (.bb a.aE (wD ws) (ps.map enc)),some (.bd (ps.map enc)),some (.sh (.bl b)),o3,o4,o5]
  have bh:∀o3 o4 o5,Px a.aE 0 (cK a) (en o3 o4 o5)=some ((tO ps).map aS):=fun o3 o4 o5=>Hr h hq hl rfl;have bc:∀o3 o4 o5,Nx a.aE 0 (bZ a) (en o3 o4 o5)=some (.int (cP ps)):=fun o3 o4 o5=>xA rfl;refine zj ?_;show zf a (en none none none)=_;unfold zf
  let due:eY:=some (.sh (.lst ((tO ps).map aS)))
  refine(aC (bW (d:=.lst ((tO ps).map aS)) ?_)).trans ?_
  ·simp only[bD,ag,aM,eL,yM,Pt,en,cS,dO,cf,eD,vN,hz,and_self,cw,xx,el]
  have fin:∀o5,bj (cy 4 (Nx a.aE 0 (bZ a))) (bj (iM (iP (jj (bF (bD qO (ag (eV 4) aM)))) (bF (ae lT (aB 4) (iu Cg (ag (eL (sf (Pt 1))) aM))))) (dZ (eC (.bl false))) bS) (dZ (bD (dJ 6) (ag (eL (Px a.aE 0 (cK a))) (ag (aB 3) aM))))) (en due none o5)=some (.rt (.sh (.bl true))):=fun o5=>by
    refine(aC (bW (bc _ _ _))).trans ?_;refine(aC ((ef ?_).trans rfl)).trans ?_
    · have e1:sf (Pt 1) (en due (some (.sh (.int (cP ps)))) o5)=some ((ps.map fun r=>r.2).map D.int):=by
        simp only[sf,Pt,en,cS,dO,cf,vN,hz,and_self,cw,Bo]
      have e2:((ps.map fun r=>r.2).sum)=cP ps:=rfl;show iP _ _ (en due (some (.sh (.int (cP ps)))) o5)=_;simp only[iP,jj,bF,ae,bD,iu,ag,aM,eL,e1,cf,eD,Cg,gY,e2];simp only[eV,aB,en,cS,dO,cf,eD,Od,nA];simp
    ·refine oV ?_;show bD _ _ (en due (some (.sh (.int (cP ps)))) o5)=_;simp only[bD,ag,aM,eL,bh,cf,eD];simp only[aB,en,due,cS,dO,cf,eD,sm]
  cases b with
  |false=>exact(aC ((ef rfl).trans rfl)).trans (fin none)
  |true=>refine(aC (η':=en due none (some (.ol []))) ((lg rfl).trans ?_)).trans (fin _);refine(aC (ny (d:=(tO ps).map aS) (bh _ _ _))).trans ?_;refine(aC ((ef ?_).trans rfl)).trans rfl;simp only[jj,bF,bD,ag,aM,aB,en,due,jd,jF,cS,dO,cf,eD,sm,Bool.not_true]
end
abbrev sJ:Stmt:=inClass (top 19) 0
theorem Og:bq ["self","words"] ["self","words"] (aj sJ):=⟨rfl,rfl,rfl,by decide +kernel,rfl,by decide +kernel,by decide +kernel⟩
def pf(K:PySem.W.Frag)(C:Addr):Sp:=fun vs H Q _=>∃x l dx F ws,vs=[.ref x,.ref l]∧Base F H∧F x=none∧H x=some (.ins C dx [])∧kI ws∧Den K H (.lst (wD ws)) (.ref l) ∧
  ∀H' F' d,aG F (cX H x) F' H'→ip K F' (.ref x) C (wD ws) d→H d=none→gJ K F' H' d []→Q .non H'
theorem Oh{K:PySem.W.Frag}{base:Heap}{f:Addr}{a:vo}(F:lW K "__init__" "Box.__init__" sJ f fd)(T:Txt K mg a)(vQ:mF P w K mg base 2 a.gi ["words"] (gG K [false] gp)):cD P w K mg base mz 3 f fd ["self","words"] (pf K a.aE):=by
  refine F.ok Og (fun vs H Q E h=>?_) (fun di A outer s H vs Q E hr h=>?_)
  ·obtain⟨x,l,dx,F,ws,rfl,_⟩:=h;rfl
  · obtain⟨x,l,dx,F,ws,rfl,b,hFx,X9,R4,VX,k⟩:=h;have hu:=hr.units;refine⟨_,dc (kL (PE.UR fun z=>cg vQ (hr.mono (by decide)) rfl T.gi (cC (aA 1) aN)))
      (dc (Ij (pv 0) (PE.XU fun z=>JQ rfl rfl T.mV (aA 1)) rfl) (m7 (Ij (pv 0) pT rfl))),?_⟩
    have h6:=R4.six;have e1:bD gp (ag (aB 1) aM) [none,some (.br (.lst (wD ws)))]=some .non:=by simp only[bD,ag,aM,aB,cS,dO,cf,eD,Ln R4]
    refine A2 (η:=[none,some (.br (.lst (wD ws)))]) (d:=.non) b ⟨VX,trivial⟩ e1 fun v H1 F1 g1 _=>?_;have hd1:=aL g1.ent _ _ VX;have e2:yq (aB 1) [none,some (.br (.lst (wD ws)))]=some (wD ws):=by
      have him:(wD ws).all D.nP=true:=by rw[eU];intro d hd;obtain⟨w,_,rfl⟩:=gC.mp hd;exact Ey _
      simp only[yq,aB,cS,dO,cf,him,ux,fK,cw]
    refine Kw (η:=[none,some (.br (.lst (wD ws)))]) (ds:=wD ws) g1.base ⟨hd1,trivial⟩ e2 fun lp ls H2 F2 g2 hlp G8 G9 Yb=>?_;have hx1:=g1.ent _ _ X9;have hx2:=g2.ent _ _ hx1;have uH:=g1.trans g2;have fx2:F2 x=none:=i7 (K:=K) uH hFx X9 rfl;have hxl:x≠lp:=aP hx1 hlp;refine⟨.ref x,rfl,x,a.aE,dx,[],rfl,hx2,T.dG,T.qG,by decide,?_⟩;intro d hd;have SV:d≠x:=fun e=>by subst e;rw[ax] at hd;cases hd
    have hd2:H2 d=none:=by rw[ai SV] at hd;exact hd
    have Yc:d≠lp:=fun e=>by subst e;rw[hd2] at G9;cases G9
    refine⟨.ref x,rfl,x,a.aE,dx,[("words",.ref lp)],rfl,?_,T.dG,T.jt,(show 1<1000 by decide),?_⟩
    ·rw[ai (dq SV),ax];rfl
    have Yd:lR "lying" (V.ref d) [("words",V.ref lp)]=([("words",V.ref lp),("lying",V.ref d)]:List (Str×V)):=rfl;show Q .non (upd (upd (upd H2 x (.ins a.aE dx [("words",.ref lp)])) d (.dT [])) x (.ins a.aE dx (lR "lying" (V.ref d) [("words",V.ref lp)])));rw[Yd];have gx:aG F (cX H x) F H:=kF b hFx X9 rfl;have h0l:cX H x lp=none:=by rw[cF (dq hxl)];exact g1.ent.free hlp
    have gS:=(gx.trans uH).share g2.base G9 h0l;have fx:upd F2 lp (.lst ls) x=none:=by rw[ai hxl];exact fx2
    have gW:=gS.write (p:=x) (o:=.ins a.aE dx [("words",.ref lp)]) bQ fx trivial rfl;have gD:=gW.trans (aG.own gW.base hd (.dT []) (iC _) rfl);have gE:=gD.write (p:=x) (o:=.ins a.aE dx [("words",.ref lp),("lying",.ref d)]) bQ fx trivial rfl;have gF:=gE.share gE.base (p:=x) ax bQ;have sx:bH (upd F2 lp (.lst ls)) (upd (upd F2 lp (.lst ls)) x (.ins a.aE dx [("words",.ref lp),("lying",.ref d)])):=fV fx _;have sl:bH F2 (upd F2 lp (.lst ls)):=fV G8 _;refine k _ _ d gF ⟨x,dx,lp,ls,rfl,ax,eW.of (sx _ _ ax),bp (sl.trans sx) _ _ Yb⟩ (uH.ent.free hd2) ⟨?_,[],?_,.nil⟩
    ·rw[ai SV,ai Yc];exact g2.base.sub.free hd2
    ·rw[ai SV,ax]
theorem R5{K:PySem.W.Frag}{l:Addr}{Q:VK}(b:Base F H)(hr:kI ws)(hl:Den K H (.lst (wD ws)) (.ref l))(k:∀x d H' F',aG F H F' H'→ip K F' (.ref x) C (wD ws) d→H d=none→gJ K F' H' d []→Q (.ref x) H'):∀x dx,H x=none→H dx=none→dx≠x→pf K C (.ref x::([.ref l]++[])) (upd (upd H dx (.own x)) x (.ins C dx [])) (fun v H2=>v=.non∧Q (.ref x) H2) E0:=fun x dx hx SV lX=>by
  have gO:aG F H F (upd H dx (.own x)):=aG.own b SV (.own x) trivial rfl;have Pp:upd H dx (.own x) x=none:=by rw[ai (dq lX)];exact hx
  have gI:aG F (upd H dx (.own x)) F (upd (upd H dx (.own x)) x (.ins C dx [])):=aG.own gO.base Pp (.ins C dx []) trivial rfl;have eh:cX (upd (upd H dx (.own x)) x (.ins C dx [])) x=upd H dx (.own x):=by
    funext c;by_cases e:c=x
    ·rw[e,bQ,Pp]
    ·rw[cF e,ai e]
  have g:=gO.trans gI;refine⟨x,l,dx,F,ws,rfl,g.base,b.sub.free hx,ax,hr,aL g.ent _ _ hl,fun H' F' d gg bb hd o=>⟨rfl,?_⟩⟩;rw[eh] at gg;exact k x d H' F' (gO.trans gg) bb (g.ent.free hd) o
abbrev nmL:dC:=["_law_script","_law_roll","_law_rolls","_law_handed","_law_boxes","_law_kept","_law_cell","_law_xs","_law_which"]
theorem gq:bq nmL ["_law_script"] (aj iT):=⟨rfl,rfl,rfl,by decide +kernel,rfl,by decide +kernel,by decide +kernel⟩
def Va(K:PySem.W.Frag):Sp:=fun vs H Q _=>∃(l:Addr) (ns:bK) (F:Hp),vs=[.ref l]∧ns.length≤63∧Base F H∧Den K F (.lst (ns.map D.int)) (.ref l)∧∀H',Q (.bl true) H'
def Bp(t:TE):TE:=fun σ H Q=>∃d ao,H d=some (.dT ao)∧∀o,t σ (upd H d (.gL o (.dT ao))) fun x H'=>H' d=some (.gL o (.dT ao))∧Q x (upd H' d (.dT ao))
structure m4 (K:PySem.W.Frag) (C:Addr) (F0 H0 F H:Hp) (bl kl ra:Addr) (v:Bool→V) (p q:Bool→Addr) (r:Bool→V) (ws:Bool→List (List Nat)) (ps:Bool→dX):Prop where
  gr:aG F0 H0 F H
  SW:F bl=some (.lst [v false,v true])
  SX:F kl=some (.lst [.ref (q false),.ref (q true)])
  Ye:eW K F ra [r false,r true]
  Yg:∀i,Den K F (.lst (wD (ws i))) (r i)
  ro:∀i,kI (ws i)
  box:∀i,ip K F (v i) C (wD (ws i)) (p i)
  op:∀i,gJ K F H (p i) ((ps i).map enc)
  oq:∀i,gJ K F H (q i) ((ps i).map enc)
  ok:∀i,FL ((ws i).length:Int) (ps i)
  pq:∀i j,p i≠q j
  pp:∀i j,i≠j→p i≠p j
  qq:∀i j,i≠j→q i≠q j
  zp:∀i,H0 (p i)=none
  zq:∀i,H0 (q i)=none
section
variable {K:PySem.W.Frag} {C:Addr} {F0 H0 F H F' H':Hp} {bl kl ra:Addr} {v:Bool→V} {p q:Bool→Addr} {r:Bool→V} {ws:Bool→List (List Nat)} {ps:Bool→dX}
theorem m4.grow(I:m4 K C F0 H0 F H bl kl ra v p q r ws ps)(g:aG F H F' H'):m4 K C F0 H0 F' H' bl kl ra v p q r ws ps :=
  ⟨I.gr.trans g,g.cz _ _ I.SW,g.cz _ _ I.SX,g.cz.seq I.Ye,fun i=>aL g.cz _ _ (I.Yg i),I.ro,fun i=>(I.box i).mono g.cz,fun i=>(I.op i).grow g,fun i=>(I.oq i).grow g,I.ok,I.pq,I.pp,I.qq,I.zp,I.zq⟩
theorem m4.eff(I:m4 K C F0 H0 F H bl kl ra v p q r ws ps)(i:Bool){Bx:dX}(hk:FL ((ws i).length:Int) Bx)(g:aG F (cX (cX H (p i)) (q i)) F' H')(a:gJ K F' H' (p i) (Bx.map enc))(b:gJ K F' H' (q i) (Bx.map enc)):m4 K C F0 H0 F' H' bl kl ra v p q r ws (fun j=>if j=i then Bx else ps j):=by
  have g0:aG F0 H0 F (cX (cX H (p i)) (q i)):=(I.gr.cX (I.zp i) (I.op i).1).cX (I.zq i) (I.oq i).1;refine⟨g0.trans g,g.cz _ _ I.SW,g.cz _ _ I.SX,g.cz.seq I.Ye,fun j=>aL g.cz _ _ (I.Yg j),I.ro,fun j=>(I.box j).mono g.cz,fun j=>?_,fun j=>?_,fun j=>?_,I.pq,I.pp,I.qq,I.zp,I.zq⟩
  · by_cases e:j=i
    ·subst e;simp only[cw];exact a
    ·simp only[e,jJ];exact(((I.op j).cX (I.pp j i e)).cX (I.pq j i)).grow g
  · by_cases e:j=i
    ·subst e;simp only[cw];exact b
    ·simp only[e,jJ];exact(((I.oq j).cX (dq (I.pq i j))).cX (I.qq j i e)).grow g
  · by_cases e:j=i
    ·subst e;simp only[cw];exact hk
    ·simp only[e,jJ];exact I.ok j
theorem m4.same{i:Bool}(I:m4 K C F0 H0 F H bl kl ra v p q r ws (fun j=>if j=i then ps i else ps j)):m4 K C F0 H0 F H bl kl ra v p q r ws ps:=by
  have e:(fun j=>if j=i then ps i else ps j)=ps:=by
    funext j;by_cases e:j=i
    ·rw[ay e,e]
    ·rw[az e]
  rw[e] at I;exact I
def Oi(i:Bool):Int:=if i=true then 1 else 0
theorem qY{α:Type}(f:Bool→α)(i:Bool):rJ [f false,f true] (Oi i)=some (f i):=by cases i<;>rfl
theorem Vb{o1 o2:HO}{x y:Addr}(b:Base F H)(h1:F x=none)(h2:F y=none):bH F (upd (upd H x o1) y o2):=fun c u e=>by rw[ai (aP e h2),ai (aP e h1)];exact b.sub c u e
theorem pj{a:vo}{tb tk:TE}{ti:TE}{b:Bool}{Q:VK}{E:XK}(i:Bool)(I:m4 K a.aE F0 H0 F H bl kl ra v p q r ws ps)(hl:(ps i).length≤60)(hb:∀H2 Q,bH F H2→Q (v i) H2→tb σ H2 Q)(hk:∀H2 Q,bH F H2→Q (.ref (q i)) H2→tk σ H2 Q)(hi:∀H2 Q,bH F H2→Q (.bl b) H2→ti σ H2 Q)(k:∀H' F',m4 K a.aE F0 H0 F' H' bl kl ra v p q r ws ps→bH F F'→Q (.bl true) H'):Bp (Bp (um (spS K 3 (lF a)) [] E (jf tb (jf tk (jf ti zG))))) σ H Q:=by
  obtain⟨f1,w1,h1,d1⟩:=I.op i;obtain⟨f2,w2,h2,d2⟩:=I.oq i;refine⟨p i,w1,h1,fun o1=>⟨q i,w2,by rw[ai (dq (I.pq i i))];exact h2,fun o2=>?_⟩⟩;have s2:=Vb (o1:=.gL o1 (.dT w1)) (o2:=.gL o2 (.dT w2)) I.gr.base f1 f2;refine hb _ _ s2 (hk _ _ s2 (hi _ _ s2 ?_));exact Kz (ds:=[.bl b]) (vs:=[.bl b]) I.gr.base (I.pq i i) f1 h1 d1 f2 h2 d2 (I.box i) (il (bu.mpr rfl)) rfl (Oe (I.ro i) (I.ok i) hl b)
    (fun H' F' g a b=>k H' F' (m4.same (i:=i) (I.eff i (I.ok i) g a b)) g.cz) o1 o2
end
abbrev Vc:R2:=fun x y H Q=>y=.non∧Q (.bl (!decide (x=.non))) H
def Vd(K:PySem.W.Frag)(a:vo):TS :=
  HV (xO (fun σ H Q=>∃z,vE K z (bD qN (ag (eV 6) (ag (eC (.int 12)) aM))) σ H Q) (nQ 7))
  (HV (xO (fun σ H Q=>∃z,vE K z (ae cL (ae iQ (aB 7) (eC (.int 10))) (eC (.int 2))) σ H Q) (nQ 8))
  (HV (L7 (O2 (D9 Vc (um (spS K 5 (qS a)) [] E0 (jf (D9 (B1 K) (jY 4) (jY 8)) (jf (D9 (B1 K) (jY 5) (jY 8)) (jf (D9 (B1 K) (jY 2) (jY 8)) (jf (jY 7) (jf (jY 6) zG)))))) (tC .non))) (HW (tC (.bl false))) D5)
  (L7 (P2 (tB (Bp (Bp (um (spS K 3 (lF a)) [] E0 (jf (D9 (B1 K) (jY 4) (jY 8)) (jf (D9 (B1 K) (jY 5) (jY 8)) (jf (D9 WN (D9 (rI (fun _ j=>0<j) fun i j=>.int (i%j)) (D9 (B1 K) (jY 7) (tC (.int 11))) (tC (.int 2))) (tC (.int 1))) zG)))))))) (HW (tC (.bl false))) D5)))
theorem Yh{t:TE}{u w:TS}{W:Ends}(h:t σ H fun x H1=>∃c,x=.bl c∧if (!c)=true then u W σ H1 else w W σ H1):L7 (P2 (tB t)) u w W σ H:=h
theorem mod2(y:Int):∃i:Bool,y%2=Oi i:=by
  have h0:=pF y (show(2:Int)≠0 by decide);have h1:=sY y (show(0:Int)<2 by decide);by_cases h:y%2=1
  ·exact⟨true,h⟩
  ·exact⟨false,by show y%2=0;omega⟩
theorem Oj{K:PySem.W.Frag}{a:vo}{F0 H0:Hp}{bl kl ra:Addr}{v:Bool→V}{p q:Bool→Addr}{r:Bool→V}{ws:Bool→List (List Nat)}{ps:Bool→dX}{s0 s1 s3 c7 c8:Option V}{cell:Int}{W:Ends}(I:m4 K a.aE F0 H0 F H bl kl ra v p q r ws ps)(hl:∀i,(ps i).length≤58)(k:∀H' F' Bx c7' c8',m4 K a.aE F0 H0 F' H' bl kl ra v p q r ws Bx→bH F F'→(∀i,(Bx i).length≤(ps i).length+1)→W.nx [s0,s1,some (.ref ra),s3,some (.ref bl),some (.ref kl),some (.int cell),c7',c8'] H'):Vd K a W [s0,s1,some (.ref ra),s3,some (.ref bl),some (.ref kl),some (.int cell),c7,c8] H:=by
  obtain⟨xs,hx,em⟩:=Ob cell;have e1:bD qN (ag (eV 6) (ag (eC (.int 12)) aM)) [none,none,none,none,none,none,some (.sh (.int cell)),none,none]=some (.lst (xs.map D.int)):=by simp only[bD,ag,aM,eV,eC,cS,dO,cf,eD,em]
  refine A2 (η:=[none,none,none,none,none,none,some (.sh (.int cell)),none,none]) (d:=.lst (xs.map D.int)) I.gr.base ⟨aD.mpr rfl,trivial⟩ e1 fun v7 H1 F1 g1 d7=>?_;have I1:=I.grow g1;have at_:∀k:Nat,k<12→∀{α:Type} (f:Int→α),rJ (xs.map f) (k:Int)=some (f (xs.getD k 0)):=fun k hk α f=>by
    have L1:k<xs.length:=by omega
    refine kN ?_;rw[eS,jb,eP L1];rfl
  have SY:=at_ 10 (by decide) D.int;have m2:∀x,iw x 2=true:=fun _=>rfl;rw[show((10:Nat):Int)=10 from rfl] at SY;obtain⟨i,hi⟩:=mod2 (xs.getD 10 0);have e2:ae cL (ae iQ (aB 7) (eC (.int 10))) (eC (.int 2)) [none,none,none,none,none,none,none,some (.sh (.lst (xs.map D.int))),none]=some (.int (Oi i)):=by simp only[ae,aB,eC,cS,dO,cf,uN,SY,cj (m2 _),hi]
  refine A2 (η:=[none,none,none,none,none,none,none,some (.sh (.lst (xs.map D.int))),none]) (d:=.int (Oi i)) g1.base ⟨d7,trivial⟩ e2 fun v8 H2 F2 g2 d8=>?_;have I2:=I1.grow g2;have e8:=aD.mp d8;subst e8;have d7':=aL g2.cz _ _ d7;obtain⟨Bx,hk,hlen,ev⟩:=Oc (a:=a) (p:=p i) (q:=q i) (I2.ro i) (I2.ok i) (by have:=hl i;omega) hx cell;have sb:=I2.gr.base.sub;refine⟨.ref bl,rfl,.int (Oi i),rfl,bl,_,_,v i,rfl,rfl,eW.of (sb _ _ I2.SW),qY v i,.ref kl,rfl,.int (Oi i),rfl,kl,_,_,.ref (q i),rfl,rfl,eW.of (sb _ _ I2.SX),qY (fun j=>V.ref (q j)) i,.ref ra,rfl,.int (Oi i),rfl,ra,_,_,r i,rfl,rfl,sb.seq I2.Ye,qY r i,v7,rfl,.int cell,rfl,?_⟩;refine Kx (ds:=[.lst (wD (ws i)),.lst (xs.map D.int),.int cell]) (vs:=[r i,v7,.int cell]) I2.gr.base (I2.pq i i) (I2.op i) (I2.oq i) (I2.box i) (av.mpr ⟨_,_,rfl,I2.Yg i,av.mpr ⟨_,_,rfl,d7',il (aD.mpr rfl)⟩⟩) rfl ev fun H3 F3 g3 o1 o2=>?_;have I3:=I2.eff i hk g3 o1 o2;refine⟨rfl,false,rfl,QB ?_⟩;have d73:=aL g3.cz _ _ d7';obtain⟨a7,vs7,e7,sq7,dl7⟩:=aK.mp d73;rw[jh dl7] at sq7;have S0:=at_ 11 (by decide) V.int;rw[show((11:Nat):Int)=11 from rfl] at S0;have hl3:((fun j=>if j=i then Bx else ps j) i).length≤60:=by have:=hl i;simp only[cw];omega
  dsimp only[D5];refine Yh ?_;refine pj (b:=decide (V.int (xs.getD 11 0%2)=V.int 1)) i I3 hl3 (fun H2 Q s q'=>⟨.ref bl,rfl,.int (Oi i),rfl,bl,_,_,v i,rfl,rfl,eW.of (s _ _ I3.SW),qY v i,q'⟩) (fun H2 Q s q'=>⟨.ref kl,rfl,.int (Oi i),rfl,kl,_,_,.ref (q i),rfl,rfl,eW.of (s _ _ I3.SX),qY (fun j=>V.ref (q j)) i,q'⟩)
    (fun H2 Q s q'=>⟨v7,rfl,a7,_,_,_,e7,rfl,s.seq sq7,S0,_,_,rfl,rfl,(show(0:Int)<2 by decide),rfl,q'⟩) fun H4 F4 I4 s4=>⟨true,rfl,QB ?_⟩
  refine k H4 F4 _ _ _ I4 ((g1.cz.trans g2.cz).trans (g3.cz.trans s4)) fun j=>?_;by_cases e:j=i
  ·subst e;simp only[cw];exact hlen
  ·simp only[e,jJ];omega
theorem jE{h:Addr}(g:aG F H F' H')(o:F h=none∧H h=some (.lst vs)):F' h=none∧H' h=some (.lst vs):=⟨i7 (K:=([]:PySem.W.Frag)) g o.1 o.2 rfl,g.ent _ _ o.2⟩
theorem Yi{c:Addr}{oa ob oc od:HO}(bs:Base F H)(ha:F a=none)(hb:F b=none)(hc:F c=none)(hd:F d=none)(O7:H a=some oa)(Bs:H b=some ob)(Hu:H c=some oc)(Ht:H d=some od)(ta:Bt oa=false)(tb:Bt ob=false)(tc:Bt oc=false)(td:Bt od=false)(ab:b≠a)(ac:c≠a)(ad:d≠a)(bc:c≠b)(bd:d≠b)(cd:d≠c):aG F (cX (cX (cX (cX H a) b) c) d) F H:=by
  have g1:=kF bs ha O7 ta;have g2:=kF (dg bs ha) hb (by rw[cF ab];exact Bs) tb;have g3:=kF (dg (dg bs ha) hb) hc (by rw[cF bc,cF ac];exact Hu) tc;have g4:=kF (dg (dg (dg bs ha) hb) hc) hd (by rw[cF cd,cF bd,cF ad];exact Ht) td;exact((g4.trans g3).trans g2).trans g1
theorem Bq{K:PySem.W.Frag}{l:Addr}{t:TA}{Q:VK}(b:Base F H)(hr:kI ws)(hd:Den K H (.lst (wD ws)) (.ref l))(ha:∀Q',Q' [.ref l] H→t σ H Q')(k:∀x d H' F',aG F H F' H'→ip K F' (.ref x) C (wD ws) d→H d=none→gJ K F' H' d []→Q (.ref x) H'):zI C (pf K C) [] E0 t σ H Q:=ha _ (R5 (Q:=Q) b hr hd k)
theorem Ly{K:PySem.W.Frag}{l0 l1:Addr}{zu:List (List Nat)}{t0 t1:TA}{u:TS}{W:Ends}(b:Base F H)(hr:kI ws)(hr':kI zu)(h0:Den K H (.lst (wD ws)) (.ref l0))(h1:Den K H (.lst (wD zu)) (.ref l1))(a0:∀H2 Q,bH H H2→Q [.ref l0] H2→t0 σ H2 Q)(a1:∀H2 Q,bH H H2→Q [.ref l1] H2→t1 σ H2 Q)(k:∀x0 d0 H6 F6 x1 d1 H7 F7 bl,aG F H F6 H6→ip K F6 (.ref x0) C (wD ws) d0→H d0=none→gJ K F6 H6 d0 []→aG F6 H6 F7 H7→ip K F7 (.ref x1) C (wD zu) d1→H6 d1=none→gJ K F7 H7 d1 []→H7 bl=none→u W (σ.set 4 (some (.ref bl))) (upd H7 bl (.lst [.ref x0,.ref x1]))):HV (xO (TC (jf (zI C (pf K C) [] E0 t0) (jf (zI C (pf K C) [] E0 t1) zG))) (nQ 4)) u W σ H:=by
  refine Bq (Q:=fun x H1=>jf (zI C (pf K C) [] E0 t1) zG σ H1 fun xs H2=>(x::xs).length≤sizeLine∧∀p,H2 p=none→u W (σ.set 4 (some (.ref p))) (upd H2 p (.lst (x::xs)))) b hr h0 (fun Q q'=>a0 H Q (bH.refl _) q') fun x0 d0 H6 F6 g6 Yj nd0 Wd=>?_;refine Bq (Q:=fun y H2=>[.ref x0,y].length≤sizeLine∧∀p,H2 p=none→u W (σ.set 4 (some (.ref p))) (upd H2 p (.lst [.ref x0,y]))) g6.base hr' (aL g6.ent _ _ h1) (fun Q q'=>a1 H6 Q g6.ent q') fun x1 d1 H7 F7 g7 Yk Yl Ym=>?_;exact⟨show 2≤sizeLine by rw[ig];decide,fun bl Yn=>k x0 d0 H6 F6 x1 d1 H7 F7 bl g6 Yj nd0 Wd g7 Yk Yl Ym Yn⟩
theorem R6{ta tb:TE}{W:Ends}(h:ta σ H fun x H1=>∃c,x=.bl c∧if c=true then tb σ H1 W.rt else W.rt (.bl false) H1):HW (HQ ta tb) W σ H:=h
section
variable {P:Program} {w:World} {K:PySem.W.Frag} {mg:Str→fu} {base:Heap} {f:Addr} {fd fdi:FuncData} {a:vo}
theorem Lz(F:lW K "law" "law" iT f fd)(T:Txt K mg a)(nG:mF P w K mg base 1 a.hX ["_law_script","_law_k"] (gG K [true,true] cY))(Ol:mF P w K mg base 1 a.t6 ["_law_cell","_law_many"] (gG K [true,true] qN))(Om:mF P w K mg base 2 a.t7 ["_law_script","_law_at","_law_many"] (gG K [true,true,true] ub))(Oo:AF P w K mg base 3 a.ua ["_law_box","_law_kept","_law_roll","_law_xs","_law_cell"] (spS K 5 (qS a)))(Oq:AF P w K mg base 8 a.nD ["_law_box","_law_kept","_law_first"] (spS K 3 (lF a)))(Gi:cD P w K mg base mz 3 a.mU fdi ["self","words"] (pf K a.aE))(bi:Binds K fdi ["self","words"] []):cD P w K mg base mz 9 f fd ["_law_script"] (Va K):=by
  obtain⟨fdm,Gm,bm,km⟩:=Oo.ex;obtain⟨fdr,Gr,br,kr⟩:=Oq.ex;refine F.ok gq (fun vs H Q E h=>?_) (fun di A outer s H vs Q E hr h=>?_)
  ·obtain⟨l,ns,F,rfl,_⟩:=h;rfl
  · obtain⟨l,ns,F,rfl,Qz,b,hsc,kk⟩:=h;have hu:=hr.units;refine⟨_,(dc (je (i:=1) gq.nd rfl (Or.inl rfl) (PE.UR fun z=>cg Om (hr.mono (by decide)) rfl T.t7 (bw (bX 0) (bw ak (bw (cW (DE.bo ak) (DE.bo (cx (DE.bo (cg nG (hr.mono (by decide)) rfl T.hX (bw (bX 0) (bw ak aN)))) (DE.bo ak)))) aN)))))
      (dc (je (i:=2) gq.nd rfl (Or.inl rfl) (PE.UR fun z=>DO.sh (oO (n:=2) (bw (bX 1) (bw (DO.sh (JR (bX 1))) aN)))))
      (dc (je (i:=3) gq.nd rfl (Or.inl rfl) (xT (aW (PE.XU fun z=>EG rfl rfl T.mV (bX 1)) (aW (PE.XU fun z=>JR (bX 1)) cN))))
      (dc (je (i:=4) gq.nd rfl (Or.inl rfl) (xT (aW (Ee T.su Gi (hr.mono (by decide)) rfl T.aE bi .nil IE (aW (ik du (pv 3) gT (fun _ _=>rfl)) cN)) (aW (Ee T.su Gi (hr.mono (by decide)) rfl T.aE bi .nil IE (aW (ik du (pv 3) gT (fun _ _=>rfl)) cN)) cN))))
      (dc (kL (B4 PySem.F.plainAttrs_list PySem.F.slot_list_reverse PySem.F.type_list_reverse B5 (ik du (pv 3) gT (fun _ _=>rfl))))
      (dc (kL (B4 PySem.F.plainAttrs_list PySem.F.slot_list_clear PySem.F.type_list_clear zO (ik du (pv 3) gT (fun _ _=>rfl))))
      (dc (je (i:=5) gq.nd rfl (Or.inl rfl) (xT (aW pT (aW pT cN))))
      (dc (Ib PassesOwn.never rfl (PI.rJ fun z=>kR (DO.sh (Ah (bX 0) (jM (DE.bo ak)) (jM (DE.bo ak))))) (D6 (i:=6) gq.nd rfl (Or.inl rfl)) (dc (je (i:=7) gq.nd rfl (Or.inl rfl) (PE.UR fun z=>cg Ol (hr.mono (by decide)) rfl T.t6 (bw (bX 6) (bw ak aN))))
      (dc (je (i:=8) gq.nd rfl (Or.inl rfl) (PE.UR fun z=>cx (iL (aA 7) (DE.bo ak)) (DE.bo ak)))
      (dc (HX (Ec Mf (pN Gm (hr.mono (by decide)) rfl T.ua km bm .nil oX (aW (ik du (pv 4) (pv 8) (fun _ _=>rfl)) (aW (ik du (pv 5) (pv 8) (fun _ _=>rfl)) (aW (ik du (pv 2) (pv 8) (fun _ _=>rfl)) (aW (pv 7) (aW (pv 6) cN)))))) HL (j3 _)) (m7 (mv zD)) xN)
      (m7 (HX (HP (HN (sg (sg (pN Gr (hr.mono (by decide)) rfl T.nD kr br .nil oX (aW (ik du (pv 4) (pv 8) (fun _ _=>rfl)) (aW (ik du (pv 5) (pv 8) (fun _ _=>rfl)) (aW (Eb Ig (O0 Ic (ik du (pv 7) gT (fun _ _=>rfl)) gT) gT (j3 _)) cN)))))))) (m7 (mv zD)) xN))))))
      (m7 (mv (HS (sg (sg (pN Gr (hr.mono (by decide)) rfl T.nD kr br .nil oX (aW (ik du (pv 4) gT (fun _ _=>rfl)) (aW (ik du (pv 5) gT (fun _ _=>rfl)) (aW zD cN)))))) (HR (sg (sg (pN Gr (hr.mono (by decide)) rfl T.nD kr br .nil oX (aW (ik du (pv 4) gT (fun _ _=>rfl)) (aW (ik du (pv 5) gT (fun _ _=>rfl)) (aW zD cN)))))))))))))))))),?_⟩
    obtain⟨m,RV,hm6,em⟩:∃m:Nat,1≤m∧m≤6∧1+ns.getD 0 0%6=(m:Int):=by have h0:=pF (ns.getD 0 0) (show(6:Int)≠0 by decide);have h1:=sY (ns.getD 0 0) (show(0:Int)<6 by decide);exact⟨(1+ns.getD 0 0%6).toNat,by omega,by omega,by omega⟩
    obtain⟨ws,R4,ew⟩:=Oa ns RV hm6;have m6:∀x,iw x 6=true:=fun _=>rfl;have ec:cY [.lst (ns.map D.int),.int 0]=some (.sh (.int (ns.getD 0 0))):=Dy ns 0;have e1:bD ub (ag (eV 0) (ag (eC (.int 1)) (ag (ae fZ (eC (.int 1)) (ae cL (bD cY (ag (eV 0) (ag (eC (.int 0)) aM))) (eC (.int 6)))) aM))) [some (.sh (.lst (ns.map D.int))),none,none,none,none,none,none,none,none]=some (.lst (wD ws)):=by simp only[bD,ag,aM,eV,eC,ae,cS,cf,eD,ec,cj (m6 _),eA,em,ew]
    refine A2 (η:=[some (.sh (.lst (ns.map D.int))),none,none,none,none,none,none,none,none]) (d:=.lst (wD ws)) b ⟨hsc,trivial⟩ e1 fun rv H1 F1 g1 dr1=>?_;have e2:eL (uD (ag (eV 1) (ag (eL (M5 (eV 1))) aM))) [none,some (.sh (.lst (wD ws))),none,none,none,none,none,none,none]=some (.lst [.lst (wD ws),.lst (wD ws).reverse]):=rfl;refine A2 (η:=[none,some (.sh (.lst (wD ws))),none,none,none,none,none,none,none]) (d:=.lst [.lst (wD ws),.lst (wD ws).reverse]) g1.base ⟨dr1,trivial⟩ e2 fun rlv H2 F2 g2 drl=>?_;have dr2:=aL g2.cz _ _ dr1;have e3:xi (eV 1) [none,some (.sh (.lst (wD ws))),none,none,none,none,none,none,none]=some (wD ws):=rfl;refine Kw (η:=[none,some (.sh (.lst (wD ws))),none,none,none,none,none,none,none]) (ds:=wD ws) g2.base ⟨dr2,trivial⟩ e3 fun h0 NB H3 F3 g3 n0 f0 Yo dv0=>?_;have dr3:=aL g3.cz _ _ dr2;have e4:M5 (eV 1) [none,some (.sh (.lst (wD ws))),none,none,none,none,none,none,none]=some (wD ws).reverse:=rfl;refine Kw (η:=[none,some (.sh (.lst (wD ws))),none,none,none,none,none,none,none]) (ds:=(wD ws).reverse) g3.base ⟨dr3,trivial⟩ e4 fun h1 vs1 H4 F4 g4 n1 f1 Hz dv1=>?_;refine⟨show 2≤sizeLine by rw[ig];decide,fun hl nl=>?_⟩;have g5:=aG.own g4.base nl (.lst [.ref h0,.ref h1]) (show 2≤sizeLine by rw[ig];decide) rfl;have o0:=jE (g4.trans g5) ⟨f0,Yo⟩;have o1:=jE g5 ⟨f1,Hz⟩;have ol:F4 hl=none∧upd H4 hl (.lst [.ref h0,.ref h1]) hl=some (.lst [.ref h0,.ref h1]):=⟨g4.base.sub.free nl,ax⟩
    have h10:h1≠h0:=fun e=>by rw[e,Yo] at n1;cases n1
    have U3:hl≠h0:=fun e=>by rw[e,g4.ent _ _ Yo] at nl;cases nl
    have De:hl≠h1:=fun e=>by rw[e,Hz] at nl;cases nl
    have dn0:Den K (upd H4 hl (.lst [.ref h0,.ref h1])) (.lst (wD ws)) (.ref h0):=aK.mpr ⟨h0,NB,rfl,eW.of o0.2,bp ((g4.trans g5).cz.trans g5.base.sub) _ _ dv0⟩;have dn1:Den K (upd H4 hl (.lst [.ref h0,.ref h1])) (.lst (wD ws.reverse)) (.ref h1):=by rw[←Li];exact aK.mpr ⟨h1,vs1,rfl,eW.of o1.2,bp (g5.cz.trans g5.base.sub) _ _ dv1⟩
    have sc5:Den K F4 (.lst (ns.map D.int)) (.ref l):=aL (g1.cz.trans (g2.cz.trans (g3.cz.trans g4.cz))) _ _ hsc;have rl5:=aL (g3.cz.trans g4.cz) _ _ drl;generalize upd H4 hl (.lst [.ref h0,.ref h1])=H5 at g5 o0 o1 ol dn0 dn1
    -- the aaO
    dsimp only[nQ];refine Ly g5.base R4 R4.rev dn0 dn1 (fun H2 Q s q'=>⟨.ref hl,rfl,hl,_,0,.ref h0,rfl,rfl,eW.of (s _ _ ol.2),rfl,q'⟩) (fun H2 Q s q'=>⟨.ref hl,rfl,hl,_,1,.ref h1,rfl,rfl,eW.of (s _ _ ol.2),rfl,q'⟩) fun x0 d0 H6 F6 x1 d1 H7 F7 bl g6 Yj nd0 Wd g7 Yk Yl Ym Yn=>?_;have g8:=aG.put g7.base Yn (.lst [.ref x0,.ref x1]) (show 2≤sizeLine by rw[ig];decide);have Ve:upd F7 bl (.lst [.ref x0,.ref x1]) bl=some (.lst [.ref x0,.ref x1]):=ax;generalize upd F7 bl (.lst [.ref x0,.ref x1])=F8 at g8 Ve;show _;have S1:=g6.trans (g7.trans g8);have PJ:=jE S1 o0;have Vf:=jE S1 o1;have Yp:=jE S1 ol;have Ot:=Wd.grow (g7.trans g8);have Ou:=Ym.grow g8;have Yq:=Yj.mono (g7.trans g8).cz;have Yr:=Yk.mono g8.cz;have Ov:d0≠d1:=fun e=>by obtain⟨_,w,hw,_⟩:=Wd;rw[e,Yl] at hw;cases hw
    have sc8:=aL S1.cz _ _ sc5;have rl8:=aL S1.cz _ _ rl5;have b8:=g8.base;have Vg:∀(d:Addr) ao (h:Addr) vs,gJ K F8 (upd H7 bl (.lst [.ref x0,.ref x1])) d ao→(F8 h=none∧upd H7 bl (.lst [.ref x0,.ref x1]) h=some (.lst vs))→d≠h:=fun d ao h vs ⟨_,w,hw,_⟩ ⟨_,hh⟩ e=>by rw[e,hh] at hw;cases hw
    generalize upd H7 bl (.lst [.ref x0,.ref x1])=H8 at g8 S1 PJ Vf Yp Ot Ou b8 Vg
    -- the lists that were handed in are turned about
    refine⟨.ref hl,rfl,hl,_,0,.ref h0,rfl,rfl,eW.of Yp.2,rfl,.inl ⟨rfl,_,eW.of PJ.2⟩,h0,_,rfl,rfl,PJ.2,?_⟩;have b9:=vh b8 PJ.1 PJ.2 rfl (u:=.lst NB.reverse) (by show NB.reverse.length≤sizeLine;rw[List.length_reverse];exact b8.sR _ _ PJ.2) rfl;have ol9:upd H8 h0 (.lst NB.reverse) hl=some (.lst [.ref h0,.ref h1]):=by rw[ai U3];exact Yp.2
    have Ys:upd H8 h0 (.lst NB.reverse) h1=some (.lst vs1):=by rw[ai h10];exact Vf.2
    refine⟨.ref hl,rfl,hl,_,1,.ref h1,rfl,rfl,eW.of ol9,rfl,.inl ⟨rfl,_,eW.of Ys⟩,h1,_,rfl,rfl,Ys,?_⟩;have Vh:=vh b9 Vf.1 Ys rfl (u:=.lst []) (iC _) rfl;have FN:=(Ot.put (Vg _ _ _ _ Ot PJ) (.lst NB.reverse)).put (Vg _ _ _ _ Ot Vf) (.lst []);have FP:=(Ou.put (Vg _ _ _ _ Ou PJ) (.lst NB.reverse)).put (Vg _ _ _ _ Ou Vf) (.lst []);generalize upd (upd H8 h0 (.lst NB.reverse)) h1 (.lst [])=S2 at Vh FN FP
    -- the law's own dicts
    intro q0 Wf;have Wg:=aG.own Vh Wf (.dT []) (iC _) rfl;intro q1 Vi;have Yt:=aG.own Wg.base Vi (.dT []) (iC _) rfl;refine⟨show 2≤sizeLine by rw[ig];decide,fun kl nkl=>?_⟩;have gk:=aG.put Yt.base nkl (.lst [.ref q0,.ref q1]) (show 2≤sizeLine by rw[ig];decide);have oq0:gJ K F8 (upd S2 q0 (.dT [])) q0 []:=⟨Vh.sub.free Wf,[],ax,.nil⟩
    have oq1:gJ K F8 (upd (upd S2 q0 (.dT [])) q1 (.dT [])) q1 []:=⟨Wg.base.sub.free Vi,[],ax,.nil⟩
    have gA:=Wg.trans (Yt.trans gk);have Ow:=FN.grow gA;have Ox:=FP.grow gA;have Oy:=oq0.grow (Yt.trans gk);have Oz:=oq1.grow gk;have OB:∀(d:Addr) ao (c:Addr),gJ K F8 S2 d ao→S2 c=none→d≠c:=fun d ao c ⟨_,w,hw,_⟩ hc e=>by rw[e,hc] at hw;cases hw
    have Vj:S2 q1=none:=Wg.ent.free Vi;have Yu:=OB _ _ _ FN Wf;have Yv:=OB _ _ _ FN Vj;have R7:=OB _ _ _ FP Wf;have Yw:=OB _ _ _ FP Vj;have Wh:q0≠q1:=fun e=>by rw[←e,ax] at Vi;cases Vi
    have hkl:upd F8 kl (.lst [.ref q0,.ref q1]) kl=some (.lst [.ref q0,.ref q1]):=ax;have scE:=aL gA.cz _ _ sc8;have rlE:=aL gA.cz _ _ rl8;have blE:=gA.cz _ _ Ve;have Vk:=Yq.mono gA.cz;have Vl:=Yr.mono gA.cz;have bE:=gA.base;generalize upd (upd (upd S2 q0 (.dT [])) q1 (.dT [])) kl (.lst [.ref q0,.ref q1])=PK at Ow Ox Oy Oz bE;generalize upd F8 kl (.lst [.ref q0,.ref q1])=OD at Ow Ox Oy Oz bE hkl scE rlE blE Vk Vl;obtain⟨ra,rvs,rfl,rsq,Vm⟩:=aK.mp rlE;obtain⟨r0,rr,rfl,rd0,Vm⟩:=av.mp Vm;obtain⟨r1,rr,rfl,rd1,Vm⟩:=av.mp Vm;rw[aO.mp Vm] at rsq;rw[Li] at rd1;have gH:aG OD (cX (cX (cX (cX PK d0) d1) q0) q1) OD PK:=by obtain⟨a1,_,a2,_⟩:=Ow;obtain⟨b1,_,b2,_⟩:=Ox;obtain⟨c1,_,c2,_⟩:=Oy;obtain⟨e1,_,e2,_⟩:=Oz;exact Yi bE a1 b1 c1 e1 a2 b2 c2 e2 rfl rfl rfl rfl (dq Ov) (dq Yu) (dq Yv) (dq R7) (dq Yw) (dq Wh)
    have I:m4 K a.aE OD (cX (cX (cX (cX PK d0) d1) q0) q1) OD PK bl kl ra (fun i=>if i=true then .ref x1 else .ref x0) (fun i=>if i=true then d1 else d0) (fun i=>if i=true then q1 else q0) (fun i=>if i=true then r1 else r0) (fun i=>if i=true then ws.reverse else ws) (fun _=>[]):=by
      refine⟨gH,blE,hkl,rsq,fun i=>?_,fun i=>?_,fun i=>?_,fun i=>?_,fun i=>?_,fun i=>⟨List.nodup_nil,fun _ h=>nomatch h⟩,fun i j=>?_,fun i j pA=>?_,fun i j pA=>?_,fun i=>?_,fun i=>?_⟩
      · cases i
        ·exact rd0
        ·exact rd1
      · cases i
        ·exact R4
        ·exact R4.rev
      · cases i
        ·exact Vk
        ·exact Vl
      · cases i
        ·exact Ow
        ·exact Ox
      · cases i
        ·exact Oy
        ·exact Oz
      · cases i<;>cases j
        ·exact Yu
        ·exact Yv
        ·exact R7
        ·exact Yw
      · cases i<;>cases j
        ·exact absurd rfl pA
        ·exact Ov
        ·exact dq Ov
        ·exact absurd rfl pA
      · cases i<;>cases j
        ·exact absurd rfl pA
        ·exact Wh
        ·exact dq Wh
        ·exact absurd rfl pA
      · cases i
        ·show cX (cX (cX (cX PK d0) d1) q0) q1 d0=none;rw[cF Yv,cF Yu,cF Ov,bQ]
        ·show cX (cX (cX (cX PK d0) d1) q0) q1 d1=none;rw[cF Yw,cF R7,bQ]
      · cases i
        ·show cX (cX (cX (cX PK d0) d1) q0) q1 q0=none;rw[cF Wh,bQ]
        ·exact bQ
    generalize cX (cX (cX (cX PK d0) d1) q0) q1=H0 at gH I;generalize (fun i:Bool=>if i=true then V.ref x1 else V.ref x0)=vB at I;generalize (fun i:Bool=>if i=true then d1 else d0)=pB at I;generalize (fun i:Bool=>if i=true then q1 else q0)=qB at I;generalize (fun i:Bool=>if i=true then r1 else r0)=rB at I;generalize (fun i:Bool=>if i=true then ws.reverse else ws)=wB at I
    -- the loop
    let cs:bK:=(ns.drop (HT.rh ns.length 0 (some 6))).take (HT.rh ns.length ns.length (some 63)-HT.rh ns.length 0 (some 6))
    have Xj:cs.length≤57:=by refine gy (List.length_take_le _ _) ?_;rw[show(63:Int)=((63:Nat):Int) from rfl,show(6:Int)=((6:Nat):Int) from rfl,HT.tQ,HT.tQ];omega
    have e5:lS (eL (mH (eV 0) (gM (eC (.int 6))) (gM (eC (.int 63))))) [some (.sh (.lst (ns.map D.int))),none,none,none,none,none,none,none,none]=some (cs.map D.int):=by simp only[lS,eL,mH,eV,gM,eC,cS,cf,eD,fK,EX];rfl
    refine⟨⟨OD,H0,Ez⟩,[some (.sh (.lst (ns.map D.int))),none,none,none,none,none,none,none,none],OD,cs.map D.int,iS.rel (z:=⟨OD,H0,Ez⟩) ⟨scE,trivial⟩ gH,e5,fun J H14 Yx g14 wk=>?_⟩;have I14:=I.grow g14;refine⟨fun n mm σ' H'=>mm=cs.length-n∧n≤cs.length∧∃F' ps c6 c7 c8,m4 K a.aE OD H0 F' H' bl kl ra vB pB qB rB wB ps∧bH Yx F'∧(∀i,(ps i).length≤n)∧σ'=[some (.ref l),some rv,some (.ref ra),some (.ref hl),some (.ref bl),some (.ref kl),c6,c7,c8],⟨cs.length,rfl,iC _,Yx,fun _=>[],none,none,none,I14,bH.refl _,fun _=>bG _,rfl⟩,?_⟩;rintro n mm σ' H' ⟨rfl,hn,F',ps,c6,c7,c8,I',s',hp,rfl⟩;have QW:(cs.map D.int).length=cs.length:=fG _;by_cases dY:n<cs.length
    ·refine .inr ⟨wk.go F' H' s' I'.gr n (by rw[QW];exact dY),fun σ2 H2=>n+1≤cs.length∧∃F2 ps c6 c7 c8,m4 K a.aE OD H0 F2 H2 bl kl ra vB pB qB rB wB ps∧bH Yx F2∧(∀i,(ps i).length≤n+1)∧σ2=[some (.ref l),some rv,some (.ref ra),some (.ref hl),some (.ref bl),some (.ref kl),c6,c7,c8],fun σ2 H2 h=>⟨cs.length-(n+1),by omega,rfl,h⟩,fun x Bv y=>?_⟩;obtain⟨Jp,g3',it⟩:=wk.BI F' H' s' I'.gr n (.int cs[n]) x Bv (by rw[eS,eP dY];rfl) y;have ex:=(aD (K:=K) (F:=Jp)).mp it;subst ex;refine Oj (I'.grow g3') (fun i=>by have:=hp i;omega) fun H5' F5' Bx c7' c8' I5 s5 hp5=>⟨dY,F5',Bx,_,_,_,I5,s'.trans (g3'.cz.trans s5),fun i=>by have:=hp i;have:=hp5 i;omega,rfl⟩
    · have en:n=cs.length:=by omega
      subst en;have stop:=wk.stop F' H' s' I'.gr;rw[QW] at stop;refine .inl ⟨stop,?_⟩;show HW (HQ (Bp (Bp (um (spS K 3 (lF a)) [] E0 _))) (Bp (Bp (um (spS K 3 (lF a)) [] E0 _)))) _ _ _;refine R6 ?_;refine pj (b:=true) false I' (by have:=hp false;omega) (fun H2 Q s q'=>⟨.ref bl,rfl,bl,_,_,_,rfl,rfl,eW.of (s _ _ I'.SW),qY vB false,q'⟩) (fun H2 Q s q'=>⟨.ref kl,rfl,kl,_,_,_,rfl,rfl,eW.of (s _ _ I'.SX),qY (fun j=>V.ref (qB j)) false,q'⟩) (fun H2 Q s q'=>q') fun Hx Fx Ix sx=>⟨true,rfl,T5 ?_⟩
      exact pj (b:=false) true Ix (by have:=hp true;omega) (fun H2 Q s q'=>⟨.ref bl,rfl,bl,_,_,_,rfl,rfl,eW.of (s _ _ Ix.SW),qY vB true,q'⟩) (fun H2 Q s q'=>⟨.ref kl,rfl,kl,_,_,_,rfl,rfl,eW.of (s _ _ Ix.SX),qY (fun j=>V.ref (qB j)) true,q'⟩) (fun H2 Q s q'=>q') fun Hy Fy Iy sy=>kk Hy
end
section
variable {K:PySem.W.Frag} {kV doc pm di ct oc:Value} {an od:Option Addr} {wc:Array fu} {dt:Addr} {n:Nat} {u:Tok}
theorem l3{P:cv→Prop}(h:∀x0 x1 x2:Value,P [x0,x1,x2]):∀us:cv,us.length=3→P us
  |[x0,x1,x2],_=>h x0 x1 x2
theorem l2{P:cv→Prop}(h:∀x0 x1:Value,P [x0,x1]):∀us:cv,us.length=2→P us
  |[x0,x1],_=>h x0 x1
theorem Vn(l:K.lookup dt=some ⟨oc,od,.seq #[.int 1 u] n,wc⟩):Binds K (fnOf "put" "Box.put" (bM aV) (bA aV) (aj aV) (.ref dt) kV doc pm an di ct) ["self","text","many"] []:=fun s us X hl =>
  l3 (P:=fun us=>BindsTo s (fnOf "put" "Box.put" (bM aV) (bA aV) (aj aV) (.ref dt) kV doc pm an di ct) ⟨us,[]⟩ (List.zip ["self","text","many"] (us++[]))) (fun _ _ _=>binds_K X rfl l rfl rfl rfl) us (by simpa using hl)
theorem Vo(l:K.lookup dt=some ⟨oc,od,.seq #[.int 1 u] n,wc⟩):Binds K (fnOf "put" "Box.put" (bM aV) (bA aV) (aj aV) (.ref dt) kV doc pm an di ct) ["self","text","many"] [.int 1 u]:=fun s us X hl =>
  l2 (P:=fun us=>BindsTo s (fnOf "put" "Box.put" (bM aV) (bA aV) (aj aV) (.ref dt) kV doc pm an di ct) ⟨us,[]⟩ (List.zip ["self","text","many"] (us++[.int 1 u]))) (fun _ _=>binds_K X rfl l rfl rfl rfl) us (by simpa using hl)
theorem R8(l:K.lookup dt=some ⟨oc,od,.seq #[.int 1 u] n,wc⟩):Binds K (fnOf "take" "Box.take" (bM aR) (bA aR) (aj aR) (.ref dt) kV doc pm an di ct) ["self","text","many"] []:=fun s us X hl =>
  l3 (P:=fun us=>BindsTo s (fnOf "take" "Box.take" (bM aR) (bA aR) (aj aR) (.ref dt) kV doc pm an di ct) ⟨us,[]⟩ (List.zip ["self","text","many"] (us++[]))) (fun _ _ _=>binds_K X rfl l rfl rfl rfl) us (by simpa using hl)
theorem R9(l:K.lookup dt=some ⟨oc,od,.seq #[.int 1 u] n,wc⟩):Binds K (fnOf "take" "Box.take" (bM aR) (bA aR) (aj aR) (.ref dt) kV doc pm an di ct) ["self","text","many"] [.int 1 u]:=fun s us X hl =>
  l2 (P:=fun us=>BindsTo s (fnOf "take" "Box.take" (bM aR) (bA aR) (aj aR) (.ref dt) kV doc pm an di ct) ⟨us,[]⟩ (List.zip ["self","text","many"] (us++[.int 1 u]))) (fun _ _=>binds_K X rfl l rfl rfl rfl) us (by simpa using hl)
end
theorem Sb{K:PySem.W.Frag}{E:XK}(hl:ns.length≤63)(hO:Mv H)(hS:eW K H a (ns.map V.int)):Va K [.ref a] H (fun v _=>v=.bl true) E:=by
  have b:Base H H:=⟨bH.refl _,fun _ _ h _=>h,fun c o hc=>by
    rcases hO c with z|⟨ob,xs,z,hl⟩|⟨ps,z⟩
    ·rw[hc] at z;cases z
    ·rw[hc] at z;cases z;exact hl
    ·rw[hc] at z;cases z;exact True.intro⟩
  exact⟨a,ns,H,rfl,hl,b,aK.mpr ⟨a,_,rfl,hS,i6 _⟩,fun _=>rfl⟩
theorem ar1{P:cv→Prop}(h:∀x0:Value,P [x0]):∀us:cv,us.length=1→P us
  |[x0],_=>h x0
theorem ar2{P:cv→Prop}(h:∀x0 x1:Value,P [x0,x1]):∀us:cv,us.length=2→P us
  |[x0,x1],_=>h x0 x1
theorem ar3{P:cv→Prop}(h:∀x0 x1 x2:Value,P [x0,x1,x2]):∀us:cv,us.length=3→P us
  |[x0,x1,x2],_=>h x0 x1 x2
theorem ar4{P:cv→Prop}(h:∀x0 x1 x2 x3:Value,P [x0,x1,x2,x3]):∀us:cv,us.length=4→P us
  |[x0,x1,x2,x3],_=>h x0 x1 x2 x3
theorem ar5{P:cv→Prop}(h:∀x0 x1 x2 x3 x4:Value,P [x0,x1,x2,x3,x4]):∀us:cv,us.length=5→P us
  |[x0,x1,x2,x3,x4],_=>h x0 x1 x2 x3 x4
structure DN (K:PySem.W.Frag) (x:Str) (st:Stmt) (f:Addr):Prop where
  a:nsIn K mainGlobals x=some (some (.ref f))
  e:∃fd,lW K x x st f fd
structure DM (K:PySem.W.Frag) (C:Addr) (x q:Str) (st:Stmt) (f:Addr):Prop where
  a:PySem.W.findIn K (.ref C) x=some (some (.ref f))
  i:isFn K (.ref f)=true
  e:∃fd,lW K x q st f fd
section
variable {K:PySem.W.Frag} {x q:Str} {st:Stmt} {f C:Addr} {oc:Value} {od an:Option Addr} {wc:Array fu} {kV doc pm di ct:Value}
theorem eO(a:nsIn K mainGlobals x=some (some (.ref f)))(l:K.lookup f=some ⟨oc,od,.func (fnOf x x (bM st) (bA st) (aj st) .none kV doc pm an di ct),wc⟩)(c:codeIn K di x=true)(k:keepIn K (.ref f)=true):DN K x st f:=⟨a,_,xZ l c k⟩
theorem PL(a:PySem.W.findIn K (.ref C) x=some (some (.ref f)))(i:isFn K (.ref f)=true)(l:K.lookup f=some ⟨oc,od,.func (fnOf x q (bM st) (bA st) (aj st) .none kV doc pm an di ct),wc⟩)(c:codeIn K di q=true)(k:keepIn K (.ref f)=true):DM K C x q st f:=⟨a,i,_,xZ l c k⟩
end
theorem cm(P:Program)(w:World)(base:Heap){K:PySem.W.Frag}{f:Addr}{ps:dC}{sp:Sp}(h:cD P w K mg base mz n f fd ps sp)(b:Binds K fd ps [])(k:keepIn K (.ref f)=true):mF P w K mg base n f ps sp:=⟨fd,h,b,k⟩
theorem Wi(P:Program)(w:World)(base:Heap){K:PySem.W.Frag}{f:Addr}{ps:dC}{sp:Sp}(h:cD P w K mg base (CP P w) n f fd ps sp)(b:Binds K fd ps [])(k:keepIn K (.ref f)=true):AF P w K mg base n f ps sp:=⟨fd,h,b,k⟩
theorem LB{ps:dC}(h:∀x0:Value,bindArgs fd ⟨[x0],[]⟩=pure (ps.zip [x0]))(us:cv)(hl:us.length=1):bindArgs fd ⟨us,[]⟩=pure (ps.zip us):=ar1 (P:=fun us=>bindArgs fd ⟨us,[]⟩=pure (ps.zip us)) h us hl
theorem OG{ps:dC}(h:∀x0 x1:Value,bindArgs fd ⟨[x0,x1],[]⟩=pure (ps.zip [x0,x1]))(us:cv)(hl:us.length=2):bindArgs fd ⟨us,[]⟩=pure (ps.zip us):=ar2 (P:=fun us=>bindArgs fd ⟨us,[]⟩=pure (ps.zip us)) h us hl
theorem ba3{ps:dC}(h:∀x0 x1 x2:Value,bindArgs fd ⟨[x0,x1,x2],[]⟩=pure (ps.zip [x0,x1,x2]))(us:cv)(hl:us.length=3):bindArgs fd ⟨us,[]⟩=pure (ps.zip us):=ar3 (P:=fun us=>bindArgs fd ⟨us,[]⟩=pure (ps.zip us)) h us hl
theorem ba4{ps:dC}(h:∀x0 x1 x2 x3:Value,bindArgs fd ⟨[x0,x1,x2,x3],[]⟩=pure (ps.zip [x0,x1,x2,x3]))(us:cv)(hl:us.length=4):bindArgs fd ⟨us,[]⟩=pure (ps.zip us):=ar4 (P:=fun us=>bindArgs fd ⟨us,[]⟩=pure (ps.zip us)) h us hl
theorem ba5{ps:dC}(h:∀x0 x1 x2 x3 x4:Value,bindArgs fd ⟨[x0,x1,x2,x3,x4],[]⟩=pure (ps.zip [x0,x1,x2,x3,x4]))(us:cv)(hl:us.length=5):bindArgs fd ⟨us,[]⟩=pure (ps.zip us):=ar5 (P:=fun us=>bindArgs fd ⟨us,[]⟩=pure (ps.zip us)) h us hl
theorem all_mk{l:PySem.W.OpenLaw}{K:PySem.W.Frag}{fa f0 f1 f2 f3 f4 f5 f6 f7 f8 f9 f10 f11 f12 f13 f14 f15 f16 f17 f18 f19 f20 f21 Yy f23 f24 Vp Vq mU aE:Addr}(X:K.In h)(G:h.Ns mainGlobals mg)(hfa:mg "law"=some (.ref fa))(d0:DN K "heaps_of" lu f0)(d1:DN K "rank" vm f1)(d2:DN K "check_count" iH f2)(d3:DN K "check_names" iJ f3)(d4:DN K "check_ballots" gh f4)(d5:DN K "put_together" hW f5)(d6:DN K "check_roll" jo f6)(d7:DN K "is_word" mR f7)(d8:DN K "names_in" ly f8)(d9:DN K "check_many" jq f9)(d10:DN K "_law_cell_at" sr f10)(d11:DN K "_law_mixed" yQ f11)(d12:DN K "_law_base" Dj f12)(d13:DN K "_law_word" Dk f13)(d14:DN K "_law_words" yR f14)(d15:DN K "_law_whole" yS f15)(d16:DN K "_law_same" s_same f16)(d17:DN K "_law_before" vn f17)(d18:DN K "_law_heaps" yT f18)(d19:DN K "_law_like" Dl f19)(d20:DN K "_law_right" yU f20)(d21:DN K "_law_moved" yV f21){Yz Vr:Option Addr}{YB:Array fu}{YC Vs Vt Vu Sd Vv:Value}(Wj:nsIn K mainGlobals "law"=some (some (.ref Yy)))(YD:K.lookup Yy=some ⟨YC,Yz,.func (fnOf "law" "law" (bM iT) (bA iT) (aj iT) .none Vs Vt Vu Vr Sd Vv),YB⟩)(YF:codeIn K Sd "law"=true)(YG:keepIn K (.ref Yy)=true)(d23:DM K aE "count" "Box.count" kc f23)(d24:DM K aE "heaps" "Box.heaps" ke f24){YH YJ:Option Addr}{YK:Array fu}{YL YM YN YQ Vw YR:Value}{qZ:Addr}{zk:Option Addr}{zl:Nat}{zm:Array fu}{wM:Value}{Br:Tok}(YS:PySem.W.findIn K (.ref aE) "put"=some (some (.ref Vp)))(YT:isFn K (.ref Vp)=true)(YV:K.lookup Vp=some ⟨YL,YH,.func (fnOf "put" "Box.put" (bM aV) (bA aV) (aj aV) (.ref qZ) YM YN YQ YJ Vw YR),YK⟩)(YW:codeIn K Vw "Box.put"=true)(Wk:keepIn K (.ref Vp)=true)(iX:K.lookup qZ=some ⟨wM,zk,.seq #[.int 1 Br] zl,zm⟩){YX YY:Option Addr}{YZ:Array fu}{Y0 Y1 Y2 Y3 Vx Y4:Value}{oo:Addr}{wN:Option Addr}{wO:Nat}{wQ:Array fu}{vR:Value}{zo:Tok}(Y5:PySem.W.findIn K (.ref aE) "take"=some (some (.ref Vq)))(Y6:isFn K (.ref Vq)=true)(Y7:K.lookup Vq=some ⟨Y0,YX,.func (fnOf "take" "Box.take" (bM aR) (bA aR) (aj aR) (.ref oo) Y1 Y2 Y3 YY Vx Y4),YZ⟩)(Y8:codeIn K Vx "Box.take"=true)(Wl:keepIn K (.ref Vq)=true)(ie:K.lookup oo=some ⟨vR,wN,.seq #[.int 1 zo] wO,wQ⟩){ou:Tok}(lI:nsIn K mainGlobals "MOST_NAMES"=some (some (.int 6 ou))){ow:Tok}(lJ:nsIn K mainGlobals "MOST_SIGNS"=some (some (.int 12 ow))){vU:Tok}(sL:nsIn K mainGlobals "LETTERS"=some (some (.str "abcdefghijklmnopqrstuvwxyz" vU)))(LC:nsIn K mainGlobals "all"=some none)(DJ:nsIn K mainGlobals "bool"=some none)(LD:nsIn K mainGlobals "int"=some none)(lK:nsIn K mainGlobals "isinstance"=some none)(LG:nsIn K mainGlobals "len"=some none)(DK:nsIn K mainGlobals "list"=some none)(LH:nsIn K mainGlobals "min"=some none)(zr:nsIn K mainGlobals "range"=some none)(LJ:nsIn K mainGlobals "set"=some none)(vV:nsIn K mainGlobals "sorted"=some none)(LK:nsIn K mainGlobals "str"=some none)(LM:nsIn K mainGlobals "sum"=some none)(zt:nsIn K mainGlobals "tuple"=some none)(LN:nsIn K mainGlobals "zip"=some none)(LP:nsIn K mainGlobals "Box"=some (some (.ref aE))){OI OJ:Option Addr}{OL:Array fu}{OO OQ OS OU FQ OV:Value}(DQ:plainGet K aE Str.empty=true)(DR:hasDictIn K aE=true)(DU:plainOver K aE=true)(DV:PySem.W.findIn K (.ref aE) "__setattr__"=some (some (.builtin "object.__setattr__")))(su:makesIn K aE=true)(DX:PySem.W.findIn K (.ref aE) "__init__"=some (some (.ref mU)))(DY:keepIn K (.ref aE)=true)(DZ:isFn K (.ref mU)=true)(D0:K.lookup mU=some ⟨OO,OI,.func (fnOf "__init__" "Box.__init__" (bM sJ) (bA sJ) (aj sJ) .none OQ OS OU OJ FQ OV),OL⟩)(D1:codeIn K FQ "Box.__init__"=true)(D2:keepIn K (.ref mU)=true)(Se:PySem.W.findIn K (.ref aE) "lying"=some none)(Sf:PySem.W.findIn K (.ref aE) "words"=some none):∃fd:FuncData,(∀(s:Shared) (v:Value),BindsTo s fd ⟨[v],[]⟩ [("_law_script",v)])∧∀base:Heap,K.In base→base.Ns mainGlobals mg→cD l.prog w K mg base mz 9 fa fd ["_law_script"] (Va K):=by
  have e:=hfa.symm.trans (mg_of X G Wj);cases e;obtain⟨a0,_,E0⟩:=d0;obtain⟨a1,_,E1⟩:=d1;obtain⟨a2,_,E2⟩:=d2;obtain⟨a3,_,E3⟩:=d3;obtain⟨a4,_,E4⟩:=d4;obtain⟨a5,_,E5⟩:=d5;obtain⟨a6,_,E6⟩:=d6;obtain⟨a7,_,E7⟩:=d7;obtain⟨a8,_,E8⟩:=d8;obtain⟨a9,_,E9⟩:=d9;obtain⟨SY,_,Y9⟩:=d10;obtain⟨S0,_,Za⟩:=d11;obtain⟨Zb,_,Zd⟩:=d12;obtain⟨Ze,_,Zf⟩:=d13;obtain⟨Zg,_,Zh⟩:=d14;obtain⟨Zi,_,Zj⟩:=d15;obtain⟨Zk,_,Zm⟩:=d16;obtain⟨Zn,_,Zo⟩:=d17;obtain⟨Zq,_,Zr⟩:=d18;obtain⟨Zt,_,Zu⟩:=d19;obtain⟨Zv,_,Zw⟩:=d20;obtain⟨Zx,_,Zy⟩:=d21;obtain⟨Zz,ZC,_,Wm⟩:=d23;obtain⟨ZD,ZE,_,Wn⟩:=d24;have m:∀{x v},nsIn K mainGlobals x=some (some v)→mg x=some v:=mg_of X G;have mn:∀{x},nsIn K mainGlobals x=some none→mg x=none:=PySem.W.mg_none_of X G
  let a:vo:=⟨f0,f1,f2,f3,f4,f5,f6,f7,f8,f9,f10,f11,f12,f13,f14,f15,f16,f17,f18,f19,f20,f21,fa,f23,f24,Vp,Vq,mU,aE⟩
  have T:Txt K mg a:=⟨m a0,m a1,m a2,m a3,m a4,m a5,m a6,m a7,m a8,m a9,m SY,m S0,m Zb,m Ze,m Zg,m Zi,m Zk,m Zn,m Zq,m Zt,m Zv,m Zx,m Wj,m LP,⟨DQ,DR,DU,DV⟩,⟨su,DX,DZ,DY⟩,Se,Sf,⟨Zz,ZC,Wm.kp⟩,⟨ZD,ZE,Wn.kp⟩,⟨YS,YT,Wk⟩,⟨Y5,Y6,Wl⟩,⟨ou,m lI⟩,⟨ow,m lJ⟩,⟨vU,m sL⟩,mn LC,mn DJ,mn LD,mn lK,mn LG,mn DK,mn LH,mn zr,mn LJ,mn vV,mn LK,mn LM,mn zt,mn LN⟩
  have b0:=E0.binds (ps:=["count","rows"]) fun _ _ _ _ _ _=>OG fun _ _=>rfl;have b1:=E1.binds (ps:=["names"]) fun _ _ _ _ _ _=>LB fun _=>rfl;have b2:=E2.binds (ps:=["count"]) fun _ _ _ _ _ _=>LB fun _=>rfl;have b3:=E3.binds (ps:=["count","rows"]) fun _ _ _ _ _ _=>OG fun _ _=>rfl;have b4:=E4.binds (ps:=["rows"]) fun _ _ _ _ _ _=>LB fun _=>rfl;have b5:=E5.binds (ps:=["rows"]) fun _ _ _ _ _ _=>LB fun _=>rfl;have b6:=E6.binds (ps:=["words"]) fun _ _ _ _ _ _=>LB fun _=>rfl;have b7:=E7.binds (ps:=["word"]) fun _ _ _ _ _ _=>LB fun _=>rfl;have b8:=E8.binds (ps:=["words","text"]) fun _ _ _ _ _ _=>OG fun _ _=>rfl;have b9:=E9.binds (ps:=["many"]) fun _ _ _ _ _ _=>LB fun _=>rfl;have Vh:=Y9.binds (ps:=["_law_script","_law_k"]) fun _ _ _ _ _ _=>OG fun _ _=>rfl;have b11:=Za.binds (ps:=["_law_cell","_law_many"]) fun _ _ _ _ _ _=>OG fun _ _=>rfl;have b12:=Zd.binds (ps:=["_law_cell","_law_size"]) fun _ _ _ _ _ _=>OG fun _ _=>rfl;have b13:=Zf.binds (ps:=["_law_base_here","_law_place","_law_size","_law_k"]) fun _ _ _ _ _ _=>ba4 fun _ _ _ _=>rfl;have b14:=Zh.binds (ps:=["_law_script","_law_at","_law_many"]) fun _ _ _ _ _ _=>ba3 fun _ _ _=>rfl;have b15:=Zj.binds (ps:=["_law_found"]) fun _ _ _ _ _ _=>LB fun _=>rfl;have b16:=Zm.binds (ps:=["_law_found","_law_due"]) fun _ _ _ _ _ _=>OG fun _ _=>rfl;have b17:=Zo.binds (ps:=["_law_one","_law_two"]) fun _ _ _ _ _ _=>OG fun _ _=>rfl;have b18:=Zr.binds (ps:=["_law_rows"]) fun _ _ _ _ _ _=>LB fun _=>rfl;have b19:=Zu.binds (ps:=["_law_roll","_law_words_here"]) fun _ _ _ _ _ _=>OG fun _ _=>rfl;have b20:=Zw.binds (ps:=["_law_box","_law_kept","_law_first"]) fun _ _ _ _ _ _=>ba3 fun _ _ _=>rfl;have b21:=Zy.binds (ps:=["_law_box","_law_kept","_law_roll","_law_xs","_law_cell"]) fun _ _ _ _ _ _=>ba5 fun _ _ _ _ _=>rfl;have E22:=xZ (st:=iT) YD YF YG;have b23:=Wm.binds (ps:=["self"]) fun _ _ _ _ _ _=>LB fun _=>rfl;have b24:=Wn.binds (ps:=["self"]) fun _ _ _ _ _ _=>LB fun _=>rfl;have hA:UT a:=⟨⟩
  refine⟨fnOf "law" "law" (bM iT) (bA iT) (aj iT) .none Vs Vt Vu Vr Sd Vv,fun s v=>.of_eq rfl,fun base _ _=>?_⟩;have C4:=cm l.prog w base (oY E4 T) b4 E4.kp;have C2:=cm l.prog w base (sA E2 T) b2 E2.kp;have C3:=cm l.prog w base (sC E3 T) b3 E3.kp;have C5:=cm l.prog w base (qK E5 T) b5 E5.kp;have C1:=cm l.prog w base (Hf E1 T) b1 E1.kp;have C0:=cm l.prog w base (wI E0 T C4 C2 C3 C5 C1) b0 E0.kp;have C7:=cm l.prog w base (y7 E7 T) b7 E7.kp;have C6:=cm l.prog w base (tL E6 T C7) b6 E6.kp;have C8:=cm l.prog w base (wJ E8 T) b8 E8.kp;have C9:=cm l.prog w base (tN E9 T) b9 E9.kp;have C10:=cm l.prog w base (Dn Y9 T) Vh Y9.kp;have C11:=cm l.prog w base (KL Za T) b11 Za.kp;have C12:=cm l.prog w base (NH Zd T) b12 Zd.kp;have C13:=cm l.prog w base (NJ Zf T) b13 Zf.kp;have C14:=cm l.prog w base (KN Zh T C12 C10 C13) b14 Zh.kp;have C15:=cm l.prog w base (KQ Zj T) b15 Zj.kp;have C16:mF l.prog w K mg base 7 a.jr ["_law_found","_law_due"] (gG K [false,false] (dJ 6)):=A5 Zm T b16 Zm.kp  6;have C17:=cm l.prog w base (Hg Zo T) b17 Zo.kp;have C18:=cm l.prog w base (KR Zr T C17) b18 Zr.kp;have C19:=cm l.prog w base (NP Zu T) b19 Zu.kp;have C23:=Wi l.prog w base (vC Wm T) b23 Wm.kp;have C24:=Wi l.prog w base (vF Wn T C23 C0) b24 Wn.kp;have C20:=Wi l.prog w base (KW Zw T C23 C24 C18 C16 C15) b20 Zw.kp;have C25:Hc l.prog w K mg base 2 a.mS ["self","text","many"] (spS K 3 (eB a)):=⟨_,zg YV YW T C9 C8,Vn iX,⟨_,Vo iX⟩,Wk⟩
  have C26:Hc l.prog w K mg base 2 a.lA ["self","text","many"] (spS K 3 (dN a)):=⟨_,wK Y7 Y8 T C9 C8,R8 ie,⟨_,R9 ie⟩,Wl⟩
  have C21:=Wi l.prog w base (KZ Zy T C25 C26 C19) b21 Zy.kp;have LQ:=xZ (st:=sJ) D0 D1 D2;have Sg:=LQ.binds (ps:=["self","words"]) fun _ _ _ _ _ _ us hl=>ar2 (P:=fun us=>bindArgs _ ⟨us,[]⟩=pure (List.zip _ us)) (fun _ _=>rfl) us hl;exact Lz E22 T C10 C11 C14 C21 C20 (Oh LQ T C6) Sg
theorem walk{l:PySem.W.OpenLaw}{q:Program}{loose:dC}{d:DefRec}{K:Params→PySem.W.Frag}(hn:l.most=some 63)(T2:d.params.defaults=[])(hY:∀(w:World) (h:Heap),YP w h→(K w.params).In h)(F:∀(w:World) (mg:Str→fu) (fa:Addr) (h:Heap),(K w.params).In h→h.Ns mainGlobals mg→mg d.name=some (.ref fa)→∃fd:FuncData,(∀(s:Shared) (u:Value),BindsTo s fd ⟨[u],[]⟩ [("_law_script",u)])∧∀base:Heap,(K w.params).In base→base.Ns mainGlobals mg→cD l.prog w (K w.params) mg base mz 9 fa fd ["_law_script"] (Va (K w.params))):PySem.W.WalkO q loose XP YP l.row.toRowW d [] (fun f vs=>PySem.call f vs) :=
  L2.Mw (n:=63) (k:=9) (x:="_law_script") (CX:=fun _=>mz) (sp:=fun w=>Va (K w.params)) hn (by decide) T2 ⟨rfl,by decide,by decide⟩ hY F (fun _ H a ns hl hO hS=>Sb hl hO hS) fun _ _ _ _ _ z=>z
end sq
open PySem PySem.W PyProof.Rows
set_option maxRecDepth 100000 in
set_option maxHeartbeats 0 in
theorem PySem.Challenge.cw_fairbench_k52_whole_box_holds : PySem.Challenge.rw_fairbench_k52_whole_box.Holds := by
  w_on;o_law
  refine holds_open (r:=PySem.Challenge.rw_fairbench_k52_whole_box.row) (q:=HH.qv) (loose:=[]) (Xt:=fun s=>xlAt HH.qv [] s&&recOk (RowW.records PySem.Challenge.rw_fairbench_k52_whole_box.row.toRowW) s)
    (XP:=XL HH.qv []) (Yf:=(kmHook HH.KH HH.LR HH.xI []).obs) (Ya:=(kmHook HH.KH HH.LR HH.xI []).val) (YP:=(kmHook HH.KH HH.LR HH.xI []).says) (N:=5042) HH.S7 (kmHook HH.KH HH.LR HH.xI []).of (kmHook HH.KH HH.LR HH.xI []).keeps
    (fun s h=>xl_of s (Bool.and_eq_true_iff.mp h).1) XL.keeps (by rfl) (by rfl) (by rfl)
    (fun s h=>recFacts_of (Bool.and_eq_true_iff.mp h).2) (by rfl)
    (by first|assumption|decide +kernel)
    (by decide +kernel) ⟨rfl,rfl,rfl,rfl,rfl,by decide +kernel⟩ ?hw ?hc
  (case hw=>w_witness2)
  k_fill
  refine sq.walk (l:=PySem.Challenge.rw_fairbench_k52_whole_box) rfl rfl (fun w h Y=>PySem.W.km_in_of Y) ?F
  case F =>
    intro w mg fa h KX G T3;refine' sq.all_mk KX G T3 (sq.eO ?a0 ?l0 ?c0 ?k0) (sq.eO ?a1 ?l1 ?c1 ?k1) (sq.eO ?a2 ?l2 ?c2 ?k2) (sq.eO ?a3 ?l3 ?c3 ?k3) (sq.eO ?a4 ?l4 ?c4 ?k4) (sq.eO ?a5 ?l5 ?c5 ?k5) (sq.eO ?a6 ?l6 ?c6 ?k6) (sq.eO ?a7 ?l7 ?c7 ?k7) (sq.eO ?a8 ?l8 ?c8 ?k8) (sq.eO ?a9 ?l9 ?c9 ?k9) (sq.eO ?SY ?l10 ?c10 ?k10) (sq.eO ?S0 ?l11 ?c11 ?k11) (sq.eO ?Zb ?l12 ?c12 ?k12) (sq.eO ?Ze ?l13 ?c13 ?k13) (sq.eO ?Zg ?l14 ?c14 ?k14) (sq.eO ?Zi ?l15 ?c15 ?k15) (sq.eO ?Zk ?l16 ?c16 ?k16) (sq.eO ?Zn ?l17 ?c17 ?k17) (sq.eO ?Zq ?l18 ?c18 ?k18) (sq.eO ?Zt ?l19 ?c19 ?k19) (sq.eO ?Zv ?l20 ?c20 ?k20) (sq.eO ?Zx ?l21 ?c21 ?k21) ?Wj ?YD ?YF ?YG (sq.PL ?Zz ?ZC ?l23 ?c23 ?k23) (sq.PL ?ZD ?ZE ?l24 ?c24 ?k24) ?YS ?YT ?YV ?YW ?Wk ?iX ?Y5 ?Y6 ?Y7 ?Y8 ?Wl ?ie ?lI ?lJ ?sL ?LC ?DJ ?LD ?lK ?LG ?DK ?LH ?zr ?LJ ?vV ?LK ?LM ?zt ?LN ?LP ?DQ ?DR ?DU ?DV ?su ?DX ?DY ?DZ ?D0 ?D1 ?D2 ?Se ?Sf
    (case LP|a0|l0|c0|k0|a1|l1|c1|k1|a2|l2|c2|k2|a3|l3|c3|k3|a4|l4|c4|k4|a5|l5|c5|k5|a6|l6|c6|k6|a7|l7|c7|k7|a8|l8|c8|k8|a9|l9|c9|k9|SY|l10|c10|k10|S0|l11|c11|k11|Zb|l12|c12|k12|Ze|l13|c13|k13|Zg|l14|c14|k14|Zi|l15|c15|k15|Zk|l16|c16|k16|Zn|l17|c17|k17|Zq|l18|c18|k18|Zt|l19|c19|k19|Zv|l20|c20|k20|Zx|l21|c21|k21|Wj|YD|YF|YG|Zz|ZC|l23|c23|k23|ZD|ZE|l24|c24|k24|YS|YT|YV|YW|Wk|iX|Y5|Y6|Y7|Y8|Wl|ie|lI|lJ|sL|LC|DJ|LD|lK|LG|DK|LH|zr|LJ|vV|LK|LM|zt|LN|DQ|DR|DU|DV|su|DX|DY|DZ|D0|D1|D2|Se|Sf=>k_is)
