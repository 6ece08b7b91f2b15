import Derived.Test.YtbghhbpacijmmaaGreatRows
import Derived.WalkSpells
import Derived.WalkLawsBesides
import Derived.BigQuiet
import Derived.Deep.RegionHeld3
import Derived.Deep.AppendLies
import Derived.Deep.DrawnRows
import Derived.Laws.CopyOwn
import Derived.Laws.AppendOwnNone
abbrev Eq.H:=@Eq.trans
abbrev Iff.H:=@Iff.trans
abbrev List.Perm.H:=@List.Perm.trans
abbrev List.Sublist.H:=@List.Sublist.trans
abbrev Go.RowKit.Hid.o:=@Go.RowKit.Hid.out
abbrev Go.Calls.L:=@Go.Calls.mono
abbrev Go.RowKit.Below.H:=@Go.RowKit.Below.trans
abbrev Go.RowKit.Below.L:=@Go.RowKit.Below.mono
open Go.Proofs.Tryz
namespace Go.Proofs.YtbghhbpacijmmaaGreat
set_option maxRecDepth 99999
set_option maxHeartbeats 0
set_option linter.defProp false
abbrev I:Int→Value:=.int .i64
abbrev U (b o:Nat):Addr:=⟨b,o,none⟩
abbrev O (b:Nat):Value:=.pointer (some ⟨b,0,none⟩)
abbrev G (b:Nat):Option Addr:=some ⟨b,0,none⟩
abbrev OO:Value:=.slice none 0 0
abbrev iF:Ending:=.returned (.tuple #[])
abbrev gU:Value→Ending:=.returned
abbrev gK:Option Addr→Nat→Nat→Value:=.slice
abbrev ig (a:Array Value) (t:TypeId) (f:Nat×Nat:=(0,0)):Obj:=.cells a t f
abbrev iU:FuncId→Array Value→World→(Ending→World→Prop)→Prop:=Calls prog
theorem ib {α:Sort _} {β:Sort _} {P:α→Prop} {f:α→β}:∀b,P b→f b=f b:=fun _ _=>rfl
theorem C {p:Prop} (h:p:=by omega):p:=h
theorem bT {p:Prop} (h:p:=by decide):p:=h
theorem bz {p:Prop} (h:p:=by simp):p:=h
theorem ko {p:Prop} (h:p:=by rfl):p:=h
theorem iu {p:Prop} (h:p:=by kernel_rfl):p:=h
theorem iq {p:Prop} (h:p:=by go_num):p:=h
theorem iD {p:Prop} (h:p:=by simp[Go.RowKit.intOf];omega):p:=h
theorem autoSome {α:Type _} {a b:α} (h:a=b:=by kernel_rfl):some a=some b:=congrArg some h
theorem ik {p:Prop} (h:p:=by simp;omega):p:=h
theorem gM {p q:Prop} (x:q) (h:q→p:=by intro;omega):p:=h x
theorem gG {α:Sort _} (a:α):∃b,a=b:=⟨a,rfl⟩
theorem nS {α:Type _} {l:List α} {i:Nat} (h:i<l.length):∃x,l[i]?=some x:=⟨_,List.getElem?_eq_getElem h⟩
def ae:=@Array.getElem?_eq_some_iff
def af:=@Nat.lt_of_lt_of_le
def ah:=@List.getElem?_eq_getElem
def aj:=@List.getElem?_eq_some_iff
def ao:=@Go.heap_alloc_new
def ax:=@Go.cell_of_row
def ay:=@List.length_map
def az:=@if_neg
def aA:=@Int.le_refl
def aB:=@List.getElem?_append_left
def aC:=@List.getElem?_append_right
def aD:=@List.mem_map
def aE:=@if_pos
def aF:=@Nat.le_trans
def aH:=@List.getElem?_set_ne
def aJ:=@Option.some.injEq
def aK:=@List.getElem?_map
def aL:=@List.getElem_mem
def aM:=@List.take_succ_eq_append_getElem
def aN:=@List.mem_cons_self
def aO:=@List.length_append
def aP:=@Go.frozen_of_row
def aQ:=@List.getElem?_set_self
def aR:=@List.mem_of_getElem?
def aS:=@List.getD_eq_getElem?_getD
def aT:=@List.mem_append
def aU:=@List.mem_filter
def aV:=@List.mem_iff_getElem
def aW:=@List.length_eq_zero_iff
def aX:=@List.mem_cons_of_mem
def aZ:=@List.map_append
def bf:=@List.map_congr_left
def bh:=@List.mem_cons
def bj:=@List.map_cons
def bk:=@Classical.byContradiction
def br:=@List.map_map
def bt:=@Int.le_trans
def bu:=@List.mem_of_find?_eq_some
def bF:=@List.length_filter_le
def bG:=@Option.map_some
def bH:=@List.length_take
def bI:=@List.take_of_length_le
def bJ:=@List.ext_getElem?
def bK:=@List.length_set
def bL:=@Bool.and_eq_true
def bM:=@List.ne_nil_of_mem
def bN:=@Option.map_eq_some_iff
def bP:=@Nat.zero_add
def bQ:=@List.exists_cons_of_ne_nil
def bS:=@List.getElem?_modify
def bU:=@List.find?_eq_none
def bY:=@List.nodup_cons
def bZ:=@List.take_length
def cj:=@List.pairwise_map
def cm:=@List.drop_eq_getElem_cons
def cu:=@List.pairwise_append
def cw:=@List.mem_singleton
def cy:=@List.length_modify
def cz:=@List.filter_append
def cA:=@List.getElem_set_self
def cB:=@List.getElem?_eq_none
def cC:=@List.getElem_set_ne
def cD:=@List.getElem?_range
def cE:=@List.filter_sublist
def cF:=@List.append_nil
def cG:=@Nat.add_assoc
def cH:=@Go.heap_setCell_same
def cI:=@List.pairwise_cons
def cJ:=@List.length_pos_of_mem
def cK:=@List.any_eq_true
def cL:=@Go.heap_alloc_old
def cM:=@List.mem_append_right
def cN:=@Nat.mul_comm
def cO:=@Array.getElem?_setIfInBounds_ne
def cQ:=@List.mem_of_mem_take
def cR:=@List.find?_some
def cT:=@List.filter_cons
def cU:=@List.length_pos_iff
def cW:=@List.take_add_one
def cX:=@List.nodup_append
def cY:=@Nat.le_of_eq
def cZ:=@List.getElem?_take
def de:=@Int.emod_lt_of_pos
def df:=@List.length_cons
def dh:=@List.getElem?_cons_zero
def di:=@List.mem_range
def dm:=@List.any_eq_false
def dp:=@List.range_succ
def dq:=@Int.emod_nonneg
def dr:=@Bool.eq_iff_iff
def du:=@List.getElem?_drop
def dx:=@List.getElem?_cons_succ
def dy:=@List.Sublist.refl
def dz:=@List.nil_append
def dA:=@List.length_nil
def dB:=@List.not_mem_nil
def dC:=@List.getElem_map
def dD:=@List.length_singleton
def dE:=@List.pairwise_iff_getElem
def dF:=@List.foldl_cons
def dG:=@List.mem_append_left
def dH:=@List.filter_congr
def dI:=@List.getElem_append_left
def dJ:=@List.length_mapIdx
def dK:=@List.take_append_drop
def dL:=@Option.map_eq_map
def dM:=@List.getElem_take
def dN:=@List.foldl_append
def dP:=@List.flatMap_cons
def dQ:=@Nat.mul_pos
def dR:=@Nat.sub_self
def dT:=@Nat.le_of_not_lt
def dU:=@List.nodup_range
def dV:=@List.cons_append
def dW:=@Array.getElem?_eq_getElem
def dX:=@List.getElem?_take_of_lt
def dY:=@Option.some.inj
def dZ:=@List.filter_map
def ed:=@List.take_sublist
def eh:=@List.length_filter_eq_length_iff
def eo:=@List.drop_eq_nil_of_le
def et:=@Int.toNat_natCast
def ey:=@Go.ByteArray.toList_eq
def eA:=@List.set_append_right
def eB:=@List.mem_flatMap
def eC:=@List.mem_of_mem_drop
def eD:=@List.filter_eq_self
def eE:=@List.take_zero
def eF:=@Int.tdiv_eq_ediv_of_nonneg
def eG:=@Int.natCast_nonneg
def eH:=@Int.lt_of_lt_of_le
def eI:=@List.map_id
def eJ:=@List.append_assoc
def eK:=@Bool.not_eq_true'
def eL:=@List.mem_of_mem_eraseIdx
def eM:=@List.any_cons
def eN:=@Option.getD_some
def eO:=@List.zipIdx_cons
def eP:=@List.ext_getElem
def eQ:=@List.drop_length
def eR:=@Nat.lt_trans
def eS:=@Nat.le_of_lt
def eT:=@List.map_nil
def eU:=@Nat.min_eq_left
def eV:=@Bool.or_eq_true
def eX:=@List.take_take
def eY:=@List.take_succ_cons
def eZ:=@List.flatMap_append
def fb:=@Bool.false_or
def fc:=@Nat.lt_of_le_of_ne
def fe:=@List.append_of_mem
def fg:=@Bool.false_eq_true
def fh:=@Nat.lt_trichotomy
def fj:=@Nat.add_zero
def fk:=@List.set_set
def fo:=@Nat.lt_succ_self
def fp:=@List.nil_sublist
def fq:=@List.mem_flatten
def fs:=@Nat.sub_sub
def ft:=@List.take_append_of_le_length
def fA:=@List.foldr_cons
def fB:=@List.any_append
def fC:=@Int.ediv_nonneg
def fD:=@Array.getElem?_setIfInBounds
def fE:=@List.sublist_flatten_of_mem
def fF:=@Nat.mul_le_mul
def fG:=@List.perm_ext_iff_of_nodup
def fH:=@List.nodup_nil
def fI:=@List.mergeSort_of_pairwise
def fK:=@List.Perm.refl
def fL:=@Int.tmod_eq_emod_of_nonneg
def fM:=@List.mem_take_iff_getElem
def fN:=@List.mem_or_eq_of_mem_set
def fO:=@List.getLast?_eq_getElem?
def fP:=@Array.filter_eq_empty_iff
def fQ:=@Nat.lt_irrefl
def fR:=@List.sublist_append_left
def fS:=@List.map_take
def fT:=@List.eq_of_mem_replicate
def fU:=@List.contains_eq_any_beq
def fV:=@List.pairwise_singleton
def fX:=@List.getElem_cons_drop
def fY:=@List.any_map
def fZ:=@Int.le_of_lt
def gf:=@Array.size_eq_zero_iff
def gh:=@Array.getElem?_eq_none
def gk:=@List.perm_append_comm
def gp:=@Int.ediv_lt_of_lt_mul
def gv:=@Array.getElem_push_lt
def gw:=@Array.getElem?_toList
def gy:=@Nat.mul_le_mul_right
def gz:=@List.getElem?_mapIdx
def gA:=@Nat.mul_le_mul_left
def gB:=@List.replicate_succ
def gC:=@List.findSome?_cons
def gD:=@List.Sublist.append
def gE:=@Int.toNat_of_nonneg
def aG:=@Go.bodyPost_ret
def aI:=@Go.MapKept.run_getObj_map
def bO:=@Go.Value.slice.injEq
def eW:=@Go.MapKept.run_checkKey
def fa:=@Go.MapKept.run_findKey
def fm:=@Go.wpList_append_lies
def fx:=@Go.info_parts
def fy:=@Go.heap_setCell_same
def fJ:=@Go.RowKit.Below.heap_alloc
def fW:=@Go.World.news_of_block
def Z8:=@Go.RowKit.Below.heap_setCell
def Z7:=@Go.MapKept.run_setObj_map
def Z6:=@Go.wp_loop_rounds
def Z5:=@congrArg
def Z4:=@Go.run_underlying
def Z3:=@Go.IntWalk.i64_in
def Z0:=@Go.Addr.mk.injEq
def ZZ:=@Go.rounds_succ
def ZY:=@Go.RowKit.Below.setCell
def ZX:=@decide_eq_true_eq
def ZW:=@Go.wpAny_take
def ZV:=@Go.cell_one_new
def ZU:=@true_and
def ZT:=@beq_iff_eq
def ZS:=@and_true
def ZR:=@Go.MapKept.findNow_spec
open Go.RowKit
attribute [local go_sem ↓] Go.wp_at_zero Go.wp_at_succ
variable {w w' a b w1 W w3:World} {xs ys cs:List Value} {v v' v1:Value} {S T:Nat->Prop} {K K':Nat->Value} {e e':TypeId} {n g k t i j m:Nat} {p q r:Prop} {f:Nat×Nat} {R:Ending->World->Prop} {c c0:Array Value} {Q:World->Prop} {d ch ep mk:Int} {ds:List Int}
section
def gN(h:p):Hid p:=h
def Sl(w:World)(v:Value)(cs:List Value):Prop:=
 (∃a c,v=.slice a 0 c/\cs=[])\/∃b o c,v=.slice (some (U b o)) cs.length c/\b<w.heap.size/\∀j,(h:j<cs.length)->w.cell? (U b (o+j))=some cs[j]
def Bl(w w':World):Prop:=Below w.heap.size w w'
def Bl.refl(w):Bl w w:=Below.refl _ _
def Bl.H{c:World}(h:Bl a b)(k:Bl b c):Bl a c:=Below.H h (Below.L k h.size)
def Bl.drewN(h:Bl a w)(n):Bl a (w.drewN n):=⟨h.os,h.tape,h.output,h.size,h.block⟩
def Bl.drew(h:Bl a w):Bl a w.drew:=Below.drew h
def Bl.alloc(h:Bl a w)(o):Bl a (w.alloc o):=Below.alloc h h.size o
def Bl.lt(h:Bl w w'):w.heap.size<=w'.heap.size:=h.size
def Bl.cell(h:Bl w w'){b o:Nat}(y:b<w.heap.size):w'.cell? (U b o)=w.cell? (U b o):=Below.cell h y
def Bl.frozen(h:Bl w w'){b o:Nat}(y:b<w.heap.size):w'.frozen? (U b o)=w.frozen? (U b o):=Below.frozen h y
def Bl.heap(h:Bl w w'){b:Nat}(y:b<w.heap.size):w'.heap[b]?=w.heap[b]?:=h.block b y
def Sl.bl(h:Sl w v cs)(y:Bl w w'):Sl w' v cs:=by
 rcases h with h|⟨b,o,c,rfl,A,F⟩
 .exact Or.inl h
 refine Or.inr ⟨b,o,c,rfl,af A y.lt,λj H=>?_⟩;rw[<-F j H];exact y.cell A
def mn{a b:Bool}(h:a=b):gU (.bool a)=gU (.bool b):=by rw[h]
def SB{k:IntKind}{a b:Int}(h:a=b):gU (.int k a)=gU (.int k b):=by rw[h]
def Sl.empty(h:Sl w v []):∃a c,v=gK a 0 c:=by
 rcases h with⟨a,c,rfl,_⟩|⟨b,o,c,rfl,_⟩
 .simp
 simp
def Sl.len(h:Sl w v cs):∃a c,v=gK a cs.length c:=by
 rcases h with⟨y,A,rfl,rfl⟩|⟨b,o,c,rfl,_⟩
 .simp
 simp
structure gI(S:Nat->Prop)(w w':World):Prop where
 os:w'.os=w.os
 tape:w'.tape=w.tape
 output:w'.output=w.output
 size:w.heap.size<=w'.heap.size
 block:∀k,k<w.heap.size->¬S k->w'.heap[k]?=w.heap[k]?
def gI.refl(S)(w):gI S w w:=⟨rfl,rfl,rfl,Nat.le_refl _,λ_ _ _=>rfl⟩
def gI.H{c:World}(h:gI S a b)(k:gI S b c):gI S a c:=
 ⟨k.os.H h.os,k.tape.H h.tape,k.output.H h.output,aF h.size k.size,λi y A=>(k.block i (af y h.size) A).H (h.block i y A)⟩
def gI.L(h:gI S a b)(y:∀k,k<a.heap.size->S k->T k):gI T a b:=
 ⟨h.os,h.tape,h.output,h.size,λi A F=>h.block i A λe=>F (y i A e)⟩
def gI.D(h:Bl a b):gI S a b:=⟨h.os,h.tape,h.output,h.size,λi y _=>h.block i y⟩
def gI.A{row:Option Nat}(h:a.grownBy b row):gI (λk=>some k=row) a b:=⟨h.os,h.tape,h.output,h.size,λi y A=>h.block i y A⟩
def gI.u9(h:gI S a b)(A:∀k,k<a.heap.size->¬S k):Bl a b:=⟨h.os,h.tape,h.output,h.size,λi y=>h.block i y (A i y)⟩
def gI.setCell(h:gI S a w)(p)(y:S p.block\/a.heap.size<=p.block)(u):gI S a (w.setCell p u):=
 ⟨h.os,h.tape,h.output,by have:=h.size;simp;omega,λk F A=>by rw[Z8 _ _ _ _ (by rintro rfl;rcases y with y|y;exact A y;omega)];exact h.block k F A⟩
def gI.alloc(h:gI S a w)(o):gI S a (w.alloc o):=h.H (gI.D ((Bl.refl _).alloc _))
def gI.drew(h:gI S a w):gI S a w.drew:=h.H (gI.D ((Bl.refl _).drew))
def gI.cell(h:gI S w w'){b o:Nat}(y:b<w.heap.size)(A:¬S b):w'.cell? (U b o)=w.cell? (U b o):=World.cell?_of_block (h.block b y A)
def mW{base:Nat}{size:Nat}(h:w.ownsRow base e size v n xs)(F:∀b,v.ownBlock=some b->w'.heap[b]?=w.heap[b]?):w'.ownsRow base e size v n xs:=by
 refine⟨h.1,?_⟩;rcases h.2 with M|⟨g,cap,A,rfl,H,L,y⟩
 .simp_all
 exact .inr ⟨g,cap,A,rfl,H,by rw[F g rfl];exact L,y⟩
def iE{base base':Nat}{size:Nat}(h:w.ownsRow base e size v n xs)(F:∀b,v.ownBlock=some b->base'<=b):w.ownsRow base' e size v n xs:=by
 refine⟨h.1,?_⟩;rcases h.2 with L|⟨g,cap,A,rfl,M,H,y⟩
 .simp_all
 exact .inr ⟨g,cap,A,rfl,F g rfl,H,y⟩
def gI.jH(A:gI S w w'){base:Nat}{size:Nat}(h:w.ownsRow base e size v n xs)(F:∀b,v.ownBlock=some b->¬S b):w'.ownsRow base e size v n xs:=
 mW h λb y=>A.block b (h.lt b y).2 (F b y)
def lH{base base':Nat}{size y:Nat}{M:Nat}{A:List Value}(h:w.ownsRow base e size v n xs)(P:w.ownsRow base' e' y v' M A)(V:e≠e')(b)(Y:v.ownBlock=some b):v'.ownBlock≠some b:=by
 intro F;rcases h.2 with⟨rfl,_⟩|⟨g,cap,Z,rfl,_,hg,_⟩
 .contradiction
 rcases P.2 with⟨rfl,_⟩|⟨g',H,L,rfl,_,a0,_⟩
 .contradiction
 simp[Value.ownBlock]at Y F;simp_all
def jQ{base:Nat}(h:w.ownsRow base e 1 v n xs):xs.length=n:=by have:=h.1;omega
def jD{base:Nat}(h:w.ownsRow base e 1 v n xs):Sl w v xs:=by
 have y:=jQ h;rcases h.2 with⟨rfl,rfl⟩|⟨g,cap,A,rfl,_,F,_⟩
 .exact .inl ⟨_,_,rfl,aW.1 y⟩
 refine .inr ⟨g,0,cap,by rw[y],(ae.1 F).1,λj H=>?_⟩;rw[bP,h.cellAt j C];simp
def EH{base:Nat}{size:Nat}(h:w.ownsRow base e size v n xs):v.oneCell'=true:=by rcases h.2 with⟨rfl,_⟩|⟨g,cap,y,rfl,_⟩<;>rfl
def Bl.A{c:World}(h:Bl a b)(k:gI S b c)(A:∀n,S n->a.heap.size<=n):Bl a c:=
 ⟨k.os.H h.os,k.tape.H h.tape,k.output.H h.output,aF h.lt k.size,λi y=>(k.block i (af y h.lt) λe=>by have:=A i e;omega).H (h.block i y)⟩
def D7{base:Nat}(h:w.ownsRow base e 1 (gK (G g) n n) n xs):w.heap[g]?=some (ig xs.toArray e (0,0)):=by
 rcases h.2 with⟨A,_⟩|⟨M,F,H,A,_,L,_,_,P,y⟩
 .simp_all
 simp at A;obtain⟨rfl,rfl⟩:=A;rw[bI ik]at y;rw[L,<-y]
def DR{base:Nat}(h:w.heap[g]?=some (ig xs.toArray e (0,0)))(y:base<=g)(A:xs.length=n)(F:n<=maxLen):w.ownsRow base e 1 (gK (G g) n n) n xs:=
 ⟨C,.inr ⟨g,n,xs.toArray,rfl,y,h,Nat.le_refl _,F,by simpa using A,by simp;exact bI C⟩⟩
def nW(b o j):((U b o):Addr).add j=(U b (o+j)):=by unfold Addr.add;split<;>simp_all
def qS{base:Nat}(h:w.ownsRow base e 1 v n xs)(F:0<n):∃g cap,v=gK (G g) n cap:=by
 rcases h.2 with⟨_,y⟩|⟨g,cap,A,y,_⟩
 .omega
 simp_all
def C4{W':World}{row:Option Nat}(y:Bl W W')(F:W'.grownBy w3 row){b o:Nat}(A:b<W.heap.size)(h:row≠some b):w3.cell? (U b o)=W.cell? (U b o)/\w3.frozen? (U b o)=W.frozen? (U b o):=
 ⟨(F.cell_far _ (af A y.lt) (Ne.symm h)).H (y.cell A),(F.frozen_far _ (af A y.lt) (Ne.symm h)).H (y.frozen A)⟩
def gW{base:Nat}{size:Nat}(h:w.ownsRow base e size v n xs){R:Nat}(H:w.heap[R]?=some (ig c e' f))(y:e≠e'):v.ownBlock≠some R:=by
 intro A;rcases h.2 with⟨rfl,_⟩|⟨g,cap,F,rfl,_,L,_⟩
 .contradiction
 simp[Value.ownBlock]at A;simp_all
def qf{base:Nat}{size:Nat}(h:w.ownsRow base e size v n xs)(b)(y:v.ownBlock=some b):∃c,w.heap[b]?=some (ig c e (0,0)):=by
 rcases h.2 with⟨rfl,_⟩|⟨g,cap,A,rfl,_,F,_⟩
 .contradiction
 simp[Value.ownBlock]at y;simp_all
open Go.RowKit
def Tryz.Dl:(prog.info? 5).map (λi=>(i.zero,i.size,i.bytes))=some (some (.int .u8 0),1,1):=rfl
def B8(x:Int):Value:= .int .u8 x
def sN(n:Int)(j:Nat):Int:=IntKind.u64.wrap n/2^(56-8*j)%256
def te(n:Int):List Int:=(List.range 8).map (sN n)
def nO(n):(te n).length=8:=rfl
def Mh(n)(j)(h:j<8):(te n).take (j+1)=(te n).take j++[sN n j]:=by rw[aM (by rw[nO];exact h)];simp[te]
structure qi(base:Nat)(e:TypeId)(w w':World)(v v':Value)(n:Nat)(xs:List Value):Prop where
 ij:w'.ownsRow base e 1 v' n xs
 only:gI (λb=>v.ownBlock=some b) w w'
 d:∀b,v'.ownBlock=some b->v.ownBlock=some b\/w.heap.size<=b
 D:∃a c,v'=.slice a n c
def qi.H{base:Nat}{A:World}{F:Value}(h:qi base e w w1 v v1 n xs)(k:qi base e w1 A v1 F m ys):qi base e w A v F m ys:=by
 refine⟨k.ij,⟨k.only.os.H h.only.os,k.only.tape.H h.only.tape,k.only.output.H h.only.output,aF h.only.size k.only.size,λi H L=>?_⟩,λb M=>?_,k.D⟩
 .rw[k.only.block i (af H h.only.size) λe=>?_,h.only.block i H L];rcases h.d i e with e'|e'
  .simp_all
  omega
 rcases k.d b M with y|y
 .exact h.d b y
 exact .inr (aF h.only.size y)
def qi.Tn{base:Nat}{o:Obj}{cap:Nat}(A:w1.ownsRow base e 1 (gK (G g) n cap) n xs)(y:(w.alloc o).grownBy w1 v.ownBlock)(F:v.ownBlock=some g\/g=w.heap.size+1):qi base e w w1 v (gK (G g) n cap) n xs:=
 ⟨A,(gI.D ((Bl.refl _).alloc o)).H ((gI.A y).L λk _ e=>e.symm),λb M=>by
  simp[Value.ownBlock]at M
  subst M
  rcases F with h|h
  .simp_all
  .exact .inr C,⟨_,_,rfl⟩⟩
def qi.refl{base:Nat}(h:w.ownsRow base e 1 v n xs):qi base e w w v v n xs:=
 ⟨h,gI.refl _ _,λb y=>.inl y,by
  obtain⟨a,c,e⟩:=(jD h).len
  rw[jQ h]at e
  exact⟨a,c,e⟩⟩
theorem xD(base)(v)(k)(xs)(n)(w)(hv:w.ownsRow base 5 1 v k xs)(hb:base<=w.heap.size)(hk:k<=1100000000000):iU 264 #[v,I n] w λe w'=>∃v',e=gU v'/\qi base 5 w w' v v' (k+8) (xs++(te n).map B8):=by
 obtain⟨i5,ji,H,L,M⟩:=fx Tryz.Dl;have Hv:=gN hv;clear hv;go_enter func264,ntmps264;go_wp2;go_loopw[0,6](λd P wr=>∃(j:Nat),j<=8/\P=I (56-8*(j:Int))/\qi base 5 w wr v d (k+j) (xs++((te n).take j).map B8)) λ_ P _=>(intOf P+8).toNat
 case atStart=>exact⟨0,C,rfl,by simpa using qi.refl Hv.o⟩
 obtain⟨j,hj,rfl,hG⟩:=hrel;have A:=gN hG;clear hG;by_cases jt:j<8
 .have V:Hid ((k+j+1)*1<=140737488355328):=by unfold Hid;omega
  have Y:Hid (k+j+1<=maxLen):=by unfold Hid maxLen;omega
  have a2:=aF hb A.o.only.size;have hd:decide (8*(j:Int)<=56)=true:=ik;go_wp2_with(at_builtin;refine fm _ rfl _ _ 40 rfl base 5 i5 (.int .u8 0) 1 1 underlying40 ji H L M rfl bT _ (k+j) _ rfl (A.o.ij.alloc _) (U wr.heap.size 0) 1 1 [B8 (sN n j)] rfl rfl (ZV _ _ _) (by simp[B8,Value.oneCell']) bT Y.o V.o ik (wr.heap.size+1) bz ?_);intro g cap w1 y h F a1;have Z:=gN (A.o.H (qi.Tn y h F));have HE:=gN (Mh n j jt);clear y h F A;go_wp2;go_roundw
  case rel=>exact⟨j+1,C,iq,by rw[HE.o];simpa [cG]using Z.o⟩
  simp[intOf];omega
 have a0:j=8:=C;subst a0;go_wp2;go_ret;refine⟨_,rfl,?_⟩;have:=A.o;rw[bI (by rw[nO];omega)]at this;exact this
def xi(n:Int)(j:Nat):Int:=IntKind.u64.wrap n/2^(64-8*j)
def zO(n):IntKind.u64.wrap n=n%18446744073709551616:=rfl
def yn(n)(h:0<=n)(y:n<18446744073709551616):IntKind.u64.wrap n=n:=by rw[zO,Int.emod_eq_of_lt h y]
def Ih(n):∃W:Nat,IntKind.u64.wrap n=(W:Int)/\W<18446744073709551616:=by rw[zO];exact⟨(n%18446744073709551616).toNat,C,C⟩
def OD(n)(k)(h:k<8):bits .or .u64 (IntKind.u64.wrap (xi n k*256)) (IntKind.u64.wrap (sN n k))=xi n (k+1):=by
 obtain⟨W,A,F⟩:=Ih n;unfold xi sN;rw[A];have H:(2:Int)^(64-8*k)=((2^(56-8*k)*256:Nat):Int):=by have:64-8*k=(56-8*k)+8:=C;rw[this,Int.pow_add];simp
 have L:(2:Int)^(56-8*k)=((2^(56-8*k):Nat):Int):=bz;have M:64-8*(k+1)=56-8*k:=C;rw[M,H,L];generalize y:W/2^(56-8*k)=X;have P:X<18446744073709551616:=by rw[<-y];exact Nat.lt_of_le_of_lt (Nat.div_le_self _ _) F
 have V:(W:Int)/((2^(56-8*k)*256:Nat):Int)=((X/256:Nat):Int):=by rw[<-y,Nat.div_div_eq_div_mul];rfl
 have Y:(W:Int)/((2^(56-8*k):Nat):Int)=(X:Int):=by rw[<-y];rfl
 rw[V,Y];have Z:((X/256:Nat):Int)*256=((256*(X/256):Nat):Int):=C;have f4:(X:Int)%256=((X%256:Nat):Int):=C;rw[Z,f4,yn _ C C,yn _ C C,u64_or_nat _ _ C C];have g:=Nat.two_pow_add_eq_or_of_lt (i:=8) (show X%256<2^8 by omega) (X/256);have:(2:Nat)^8=256:=rfl;rw[this]at g;rw[<-g];omega
def QQ(n):xi n 0=0:=by obtain⟨W,h,y⟩:=Ih n;unfold xi;omega
def On(n)(h:(Lit.int .i64 n).wf=true):wrap64 (xi n 8)=n:=by
 have y:-9223372036854775808<=n/\n<=9223372036854775807:=by simpa [Lit.wf,IntKind.min,IntKind.bits,IntKind.signed]using h
 have e:xi n 8=n%18446744073709551616:=by unfold xi;rw[zO];simp
 unfold wrap64;omega
theorem J0(v)(n)(w)(M:Sl w v ((te n).map B8))(P:(Lit.int .i64 n).wf=true):iU 285 #[v] w λe w'=>e=gU (I n)/\w'=w:=by
 rcases M with⟨a,c,rfl,V⟩|⟨b,o,c,rfl,Y,y⟩
 .have:=Z5 List.length V;simp[nO]at this
 simp only[ay,nO]at y|-;go_enter func285,ntmps285;go_wp2;go_loop[3,8] (λt i=>∃k:Nat,k<=8/\i=I k/\t=.int .u64 (xi n k)) λ_ i=>8-(intOf i).toNat
 case atStart=>exact⟨0,C,rfl,by rw[QQ]⟩
 obtain⟨k,Z,rfl,rfl⟩:=hrel;by_cases H:k<8
 .have h:=y k H;have L:((te n).map B8)[k]'(by simp[nO];omega)=.int .u8 (sN n k):=by simp[te,B8]
  rw[L]at h;have A:=gN (OD n k H);clear L y;go_wp2;go_round
  case rel=>exact⟨k+1,C,iq,by rw[A.o]⟩
  simp[intOf];omega
 have F:k=8:=C;subst F;have A:=gN (On n P);go_wp2;go_ret;exact⟨SB A.o,rfl⟩
def gO(a:p)(b:q):Hid p/\Hid q:=⟨a,b⟩
def iI(a:p)(b:q)(c:r):Hid p/\Hid q/\Hid r:=⟨a,b,c⟩
def kN{s:Prop}(a:p)(b:q)(c:r)(d:s):Hid p/\Hid q/\Hid r/\Hid s:=⟨a,b,c,d⟩
def Bl.D(h:Bl w w')(l:g<w.heap.size){a b:Option Value}(y:w.cell? (U g i)=a)(A:w.cell? (U g j)=b):w'.cell? (U g i)=a/\w'.cell? (U g j)=b:=⟨(h.cell l).H y,(h.cell l).H A⟩
def Bl.M(h:Bl w w')(l:g<w.heap.size){a b c:Option Value}(y:w.cell? (U g i)=a)(A:w.cell? (U g j)=b)(F:w.cell? (U g k)=c):w'.cell? (U g i)=a/\w'.cell? (U g j)=b/\w'.cell? (U g k)=c:=⟨(h.cell l).H y,(h.cell l).H A,(h.cell l).H F⟩
def Bl.N(h:Bl w w')(l:g<w.heap.size){a b c d:Option Value}(y:w.cell? (U g i)=a)(A:w.cell? (U g j)=b)(F:w.cell? (U g k)=c)(L:w.cell? (U g m)=d):w'.cell? (U g i)=a/\w'.cell? (U g j)=b/\w'.cell? (U g k)=c/\w'.cell? (U g m)=d:=⟨(h.cell l).H y,(h.cell l).H A,(h.cell l).H F,(h.cell l).H L⟩
def gI.M(h:gI S w w')(l:g<w.heap.size)(n:¬S g){a b c:Option Value}(y:w.cell? (U g i)=a)(A:w.cell? (U g j)=b)(F:w.cell? (U g k)=c):w'.cell? (U g i)=a/\w'.cell? (U g j)=b/\w'.cell? (U g k)=c:=⟨(h.cell l n).H y,(h.cell l n).H A,(h.cell l n).H F⟩
def gI.N(h:gI S w w')(l:g<w.heap.size)(n:¬S g){a b c d:Option Value}(y:w.cell? (U g i)=a)(A:w.cell? (U g j)=b)(F:w.cell? (U g k)=c)(L:w.cell? (U g m)=d):w'.cell? (U g i)=a/\w'.cell? (U g j)=b/\w'.cell? (U g k)=c/\w'.cell? (U g m)=d:=⟨(h.cell l n).H y,(h.cell l n).H A,(h.cell l n).H F,(h.cell l n).H L⟩
def vg{A:Array Value}(h:w.heap[g]?=some (ig A t f))(i j:Nat){a b:Value}(e:(A[i]?,A[j]?)=(some a,some b)):w.cell? (U g i)=some a/\w.cell? (U g j)=some b:=by simp at e;exact⟨(ax w g i _ t f h).H e.1,(ax w g j _ t f h).H e.2⟩
def sy{A:Array Value}(h:w.heap[g]?=some (ig A t f))(i j k:Nat){a b c:Value}(e:(A[i]?,A[j]?,A[k]?)=(some a,some b,some c)):w.cell? (U g i)=some a/\w.cell? (U g j)=some b/\w.cell? (U g k)=some c:=by simp at e;exact⟨(ax w g i _ t f h).H e.1,(ax w g j _ t f h).H e.2.1,(ax w g k _ t f h).H e.2.2⟩
def pD{A:Array Value}(h:w.heap[g]?=some (ig A t f))(i j k m:Nat){a b c d:Value}(e:(A[i]?,A[j]?,A[k]?,A[m]?)=(some a,some b,some c,some d)):w.cell? (U g i)=some a/\w.cell? (U g j)=some b/\w.cell? (U g k)=some c/\w.cell? (U g m)=some d:=by simp at e;exact⟨(ax w g i _ t f h).H e.1,(ax w g j _ t f h).H e.2.1,(ax w g k _ t f h).H e.2.2.1,(ax w g m _ t f h).H e.2.2.2⟩
def Y1{A:Array Value}(h:w.heap[g]?=some (ig A t (0,0)))(i j:Nat):w.frozen? (U g i)=false/\w.frozen? (U g j)=false:=⟨aP w g i _ t h,aP w g j _ t h⟩
def Ff{A:Array Value}(h:w.heap[g]?=some (ig A t (0,0)))(i j k:Nat):w.frozen? (U g i)=false/\w.frozen? (U g j)=false/\w.frozen? (U g k)=false:=⟨aP w g i _ t h,aP w g j _ t h,aP w g k _ t h⟩
def yM{A:Array Value}(h:w.heap[g]?=some (ig A t (0,0)))(i j k m:Nat):w.frozen? (U g i)=false/\w.frozen? (U g j)=false/\w.frozen? (U g k)=false/\w.frozen? (U g m)=false:=⟨aP w g i _ t h,aP w g j _ t h,aP w g k _ t h,aP w g m _ t h⟩
def gS{f:FuncId}{a:Array Value}(h:iU f a w λe w'=>e=gU v/\Q w')(k:∀w',Q w'->R (gU v) w'):iU f a w R:=h.L λ_ w'⟨x,y⟩=>by rw[x];exact k w' y
def jA{f:FuncId}{a:Array Value}(h:iU f a w λe w'=>e=gU v/\Q w')(k:∀w',Hid (Q w')->R (gU v) w'):iU f a w R:=gS h k
def jU(h:Bl a b:=by first|exact Bl.refl _|exact(Bl.refl _).drew|exact(Bl.refl _).drewN _):Bl a b:=h
def nH(h:Bl a b:=by repeat(first|exact Bl.refl _|refine Bl.drew ?_|refine Bl.drewN ?_ _|refine Bl.alloc ?_ _)):Bl a b:=h
def jY(h:Bl a b):gI (λ_=>False) a b:=gI.D h
def nC(h:p:=by omega):Hid p:=h
def nZ(h:p:=by unfold maxLen;omega):Hid p:=h
def nI(a:p)(b:q):Hid (p/\q):=⟨a,b⟩
def nJ(a:p)(b:q)(c:r):Hid (p/\q/\r):=⟨a,b,c⟩
def oH{s:Prop}(a:p)(b:q)(c:r)(d:s):Hid (p/\q/\r/\s):=⟨a,b,c,d⟩
def SJ{s t u:Prop}(a:p)(b:q)(c:r)(d:s)(e:t)(f:u):Hid (p/\q/\r/\s/\t/\u):=⟨a,b,c,d,e,f⟩
def je(x:q)(h:q->p:=by intro h;simpa using h):p:=h x
def jf(x:q)(y:r)(h:q->r->p:=by intro a b;rw[a];exact b):p:=h x y
def j9(x:q)(y:r)(h:q->r->p:=by intro a b;rw[<-a];exact b):p:=h x y
def pV(x:q)(h:q->p:=by intro h;simp[Value.ownBlock]at h):p:=h x
def tD(x:q)(y:r)(h:q->r->p:=by intro a b;rw[a]at b;exact absurd b (by decide)):p:=h x y
def qH(x:q)(h:q->p:=by intro a;rw[a];decide):p:=h x
def kz(x:q)(y:r)(h:q->r->p:=by intro a b;rw[a,b]):p:=h x y
def J1(x:q)(h:q->p:=by intro a;rw[a];exact aN ..):p:=h x
def tx(h:p:=by simp[Value.oneCell']):p:=h
def zI(h:p:=by rw[IntKind.wrap_i64];omega):p:=h
def vN(h:p:=by simp[MapKept.IsKey]):p:=h
def mR(x:q)(h:q->p:=by intro h;simp at h):p:=h x
def om(x:q)(h:q->p:=by intro a;rw[a];simp):p:=h x
def mZ(x:q)(h:q->p:=by intro a;simp[a]):p:=h x
def mT(x:q)(h:q->p:=by intro a;rw[a]):p:=h x
def Zk(x:q)(h:q->p:=by intro a;rw[<-a];omega):p:=h x
def qD(x:q)(h:q->p:=by intro a;rw[a];omega):p:=h x
def iG{a:Int}:a<=a:=aA a
def jr{a:Nat}:a<=a:=Nat.le_refl a
def jR{a:Nat}:0<=a:=Nat.zero_le a
def rE{a:Nat}:a<=a+1:=Nat.le_succ a
def m7{b:Nat}{s:Nat}:w.ownsRow b e s OO 0 []:=World.ownsRow_nil w b e s
def vO:gI S w w:=gI.refl S w
def jZ:Bl w w:=Bl.refl w
abbrev Wv(p0)(p1)(p2)(p3)(p4)(p5)(p6)(p7)(p8){q9:Type}(p9:List q9)(p10):=ig #[.int .i64 p0,.int .i64 p1,.int .i64 p2,.int .i64 p3,.int .i64 p4,.int .i64 p5,.int .i64 p6,.int .i64 p7,gK p8 p9.length p10] 100
abbrev rH(p0)(p1)(p2)(p3){q4:Type}(p4:List q4)(p5):=#[I p0,I p1,I p2,gK p3 p4.length p5]
abbrev Mo :=ig #[I 0,I 0,I 0,I 0,I 0,I 0,OO] 215
abbrev mP(p0){q1:Type}(p1:List q1)(p2):=gK p0 p1.length p2
abbrev OJ :=ig #[I 0,I 0,I 0,OO] 222
abbrev BV(p0)(p1){q2:Type}(p2:List q2)(p3)(p4){q5:Type}(p5:List q5)(p6):=ig #[I p0,gK p1 p2.length p3,gK p4 p5.length p6] 320
abbrev AZ(p0)(p1)(p2)(p3)(p4)(p5)(p6)(p7)(p8){q9:Type}(p9:List q9)(p10):=ig #[I p0,I p1,I p2,I p3,I p4,I p5,I p6,I p7,gK p8 p9.length p10] 100
abbrev Br :=ig #[I 0,OO,OO] 320
abbrev QD :=#[I 0,I 0,I 0,I 0,I 0,I 0,I 0,I 0,OO]
end
section
def Bs(w:World)(v:Value)(ys:List Value):Prop:=
 (v= OO/\ys=[])\/∃ad c,v=.slice (some ad) ys.length c/\∀j u,ys[j]?=some u->w.cell? (ad.add j)=some u
def Bs.len(h:Bs w v ys):∃a c,v=gK a ys.length c:=by
 obtain⟨rfl,rfl⟩|⟨y,c,rfl,_⟩:=h
 .simp
 simp
def Bs.only(h:Bs w v ys)(A:gI S w w')(F:∀b,v.ownBlock=some b->¬S b):Bs w' v ys:=by
 obtain h|⟨y,c,rfl,H⟩:=h
 .exact .inl h
 refine .inr ⟨y,c,rfl,λj u L=>?_⟩;have M:=H j u L;have e:(y.add j).block=y.block:=by unfold Addr.add;split<;>rfl
 rw[World.cell?_of_block (A.block _ (World.block_lt_of_cell? w _ M) (by rw[e];exact F y.block rfl))];omega
def Bs.bl(h:Bs w v ys)(y:Bl w w'):Bs w' v ys:=h.only (gI.D y) λ_ _ e=>e
theorem Bs.sl(h:Bs w v ys):Sl w v ys:=by
 obtain⟨rfl,rfl⟩|⟨F,c,rfl,H⟩:=h
 .exact .inl ⟨_,_,rfl,rfl⟩
 cases L:ys with
 |nil=>exact .inl ⟨_,_,rfl,rfl⟩
 |cons y r=>
  have A:=H 0 y (by rw[L];rfl);have M:∃b o,F=(U b o):=by
   obtain⟨b,o,P⟩:=F
   cases P with
   |none=>exact⟨b,o,rfl⟩
   |some s=>unfold World.cell? Addr.add at A;simp at A;split at A<;>simp_all
  obtain⟨b,o,rfl⟩:=M;have V:=World.block_lt_of_cell? w _ A;rw[<-L];refine .inr ⟨b,o,c,rfl,V,λj Y=>?_⟩;have:=H j ys[j] (ah Y);rwa[nW]at this
def tr{base:Nat}(h:w.ownsRow base e 1 v n xs):Bs w v xs:=by
 have y:=jQ h;obtain⟨rfl,rfl⟩|⟨g,cap,A,rfl,_⟩:=h.2
 .exact .inl ⟨rfl,aW.1 y⟩
 refine .inr ⟨(U g 0),cap,mT y,λj u F=>?_⟩;rw[nW,bP,h.cellAt j (gM ((aj.1 F).1))];omega
def m8{P:Program}(w){F:Array Oper}{A:List Oper}{o:Oper}{a:Act}{Q:Exit->Act->World->Prop}(Y:o.guard=none)(s y)(t)(H:o.op=Op.call {callee:=Callee.builtin Builtin.append,args:=#[s,y],argTypes:=#[t,t]})(base)(e)(i)(z)(bytes)(Z:P.underlying t=some (.slice e))(h2:P.info? e=some i)(h3:i.zero=some z)(h4:i.size=1)(h5:i.bytes=bytes)(h6:z.cells.size=1)(v)(n)(xs)(hs:a.eval s=v)(h:w.ownsRow base e 1 v n xs)(u)(ys)(hu:a.eval y=u)(hy:Bs w u ys)(M:∀q∈ys,q.oneCell'=true)(b1:n+ys.length<=maxLen)(b2:(n+ys.length)*bytes<=140737488355328)(hb:base<=w.heap.size)(hK:∀v' w',qi base e w w' v v' (n+ys.length) (xs++ys)->wpList P F Q A (a.put o.dst v') w'):wpList P F Q (o::A) a w:=by
 obtain⟨rfl,rfl⟩|⟨ad,c,rfl,hc⟩:=hy
 .refine wpList_append_own_none Y s y t H base e i 1 Z h2 v n xs hs h hu ?_;exact hK v w (by simpa using qi.refl h)
 refine wpList_append_own_at w Y s y t H base e i z 1 bytes Z h2 h3 h4 h5 h6 C v n xs hs h ad ys.length c ys hu bz hc M b1 b2 hb ?_;intro v' w' V r2 r3 r4;refine hK v' w' ⟨V,(gI.A r2).L λk _ e=>e.symm,λb a0=>?_,?_⟩
 .obtain r4|r4:=r4
  .simp_all
  simp_all
 obtain⟨a',c',e'⟩:=(jD V).len;rw[jQ V]at e';exact⟨a',c',e'⟩
def AO(w:World)(e)(cs)(n)(h:n=cs.size):Bs (w.alloc (ig cs e)) (gK (G w.heap.size) n n) cs.toList:=by subst h;refine .inr ⟨(U w.heap.size 0),cs.size,bz,λj u y=>?_⟩;rw[nW];simp_all
def qi.from{base:Nat}(A:Bl w W)(h:qi base e W w1 v v1 n xs):qi base e w w1 v v1 n xs:=
 ⟨h.ij,(gI.D A).H h.only,λb y=>(h.d b y).imp id λe=>aF A.lt e,h.D⟩
def qi.block{base:Nat}(h:qi base e w w1 v v1 n xs)(F:w.ownsRow base e 1 v m ys){R:Nat}(A:w.heap[R]?=some (ig c e' f))(y:e≠e'):w1.heap[R]?=some (ig c e' f):=by rw[h.only.block R (ae.1 A).1 (λe=>gW F A y e)];omega
def j5(kd:Int)(ns:List Int)(val:List Int):List Int:=[kd,ns.length,val.length]++(ns.flatMap te++val)
def vp(kd:Int)(ns:List Int)(val:List Int)(k:Nat):List Int:=[kd,ns.length,val.length]++(ns.take k).flatMap te
def Ja(kd)(ns val)(k)(h:k<ns.length):vp kd ns val (k+1)=vp kd ns val k++te ns[k]:=by unfold vp;rw[aM h,eZ];simp
theorem uv:∀h:List Int,(h.flatMap te).length=8*h.length
 |[]=>rfl
 |n::r=>by rw[dP,aO,nO,uv r,df];omega
def Nv(kd)(ns val)(k)(h:k<=ns.length):(vp kd ns val k).length=3+8*k:=by unfold vp;rw[aO,uv,bH,eU h];simp
def LM(kd)(ns val):j5 kd ns val=vp kd ns val ns.length++val:=by unfold j5 vp;rw[bZ,eJ]
def m9(kd)(ns val):(j5 kd ns val).length=3+8*ns.length+val.length:=by rw[LM,aO,Nv _ _ _ _ jr]
def DO(l:List Int):∀q∈l.map B8,q.oneCell'=true:=λq h=>by obtain⟨x,_,rfl⟩:=aD.1 h;rfl
theorem oU(base)(v)(k)(xs)(kd)(nv vv)(ns val)(w)(hv:w.ownsRow base 5 1 v k xs)(hb:base<=w.heap.size)(hk:k<=1000000000000)(H:Bs w nv (ns.map I))(h:Bs w vv (val.map B8))(h0:0<=kd)(h1:kd<=255)(ba:ns.length<=255)(bb:val.length<=255)(a6:∀b,v.ownBlock=some b->nv.ownBlock≠some b)(a7:∀b,v.ownBlock=some b->vv.ownBlock≠some b)(a8:∀b,nv.ownBlock=some b->b<w.heap.size)(aa:∀b,vv.ownBlock=some b->b<w.heap.size):iU 234 #[.agg #[I kd,nv,vv],v] w λe w'=>∃v',e=gU v'/\qi base 5 w w' v v' (k+(j5 kd ns val).length) (xs++(j5 kd ns val).map B8):=by
 obtain⟨i5,ji,ab,ac,ad⟩:=fx Tryz.Dl;obtain⟨M,P,en⟩:=H.len;obtain⟨V,Y,ev⟩:=h.len;simp only[ay]at en ev;subst en ev;obtain⟨Hv,aq,ag,ar⟩:=kN hv H h a6;obtain⟨au,bc,bd⟩:=iI a7 a8 aa;clear hv H h a6 a7 a8 aa;have av:Hid ((k+3)*1<=140737488355328):=nC;have aw:Hid (k+3<=maxLen):=nZ;go_enter func234,ntmps234;have bX:=(Bl.refl w).alloc (BV kd M ns P V val Y);have hX:=ao w (BV kd M ns P V val Y);obtain⟨Z,HY⟩:=gO (Hv.alloc (BV kd M ns P V val Y)) (AO (w.alloc (BV kd M ns P V val Y)) 5 #[B8 kd,B8 ns.length,B8 val.length] 3 rfl);have A:Hid (∀q∈(#[B8 kd,B8 ns.length,B8 val.length]:Array Value).toList,q.oneCell'=true):=by intro q hq;simp at hq;obtain rfl|rfl|rfl:=hq<;>rfl
 rw[show(w.alloc (BV kd M ns P V val Y)).heap.size=w.heap.size+1 from by simp]at HY;obtain⟨HX,BX⟩:=gO hX bX;clear bX hX;go_wp2_with(at_builtin;refine m8 _ rfl (.tmp 7) (.tmp 19) 40 rfl base 5 i5 (.int .u8 0) 1 underlying40 ji ab ac ad rfl v k xs rfl (Z.alloc _) _ _ rfl (by exact HY) A aw av ik ?_);intro v1 w1 hG;have HE:=gN (fJ (w.alloc (BV kd M ns P V val Y)) (ig #[B8 kd,B8 ns.length,B8 val.length] 5) w.heap.size bz);obtain⟨a0,a2⟩:=gO (hG.block (Z.alloc _) (HE.H HX) bT) (qi.from (BX.alloc (ig #[B8 kd,B8 ns.length,B8 val.length] 5)) hG);clear hG HY Z HE A;obtain⟨a1,c1,e1⟩:∃a c,v1=gK a (k+3) c:=a2.D;subst e1;obtain⟨x1,x2⟩:=vg a0 1 2 rfl;simp at x1 x2;have ai:Hid (qi base 5 w w1 v (gK a1 (k+3) c1) (k+(3+8*0)) (xs++(vp kd ns val 0).map B8)):=by have:=a2.o;refine gN ?_;simpa [vp]using this
 clear a2;go_wp2;go_loopw[1,24](λd i wr=>∃(j:Nat),j<=ns.length/\i=I j/\wr.heap[w.heap.size]?=some (ig #[I kd,gK M ns.length P,gK V val.length Y] 320 (0,0))/\qi base 5 w wr v d (k+(3+8*j)) (xs++(vp kd ns val j).map B8)) λ_ i _=>ns.length-(intOf i).toNat
 case atStart=>exact⟨0,C,rfl,a0,ai⟩
 clear ai a0 x1 x2;obtain⟨j,hj,rfl,ak,hG⟩:=hrel;obtain⟨a3,y⟩:=gO ak hG;clear ak hG;have F:=aF hb y.only.size;by_cases jt:j<ns.length
 .have Hn:=gN ((aq.only y.only λb a4 e=>ar.o b e a4).sl);obtain⟨a9,c9,be,al⟩|⟨b1,o1,cc,am,bg,an⟩:=Hn.o
  .simp at al;simp[al]at jt
  have aY:=an j (je jt);simp only[dC]at aY;simp only[bO]at am;obtain⟨rfl,b0,rfl⟩:=am;clear b0 an;have HE:=gN (Ja kd ns val j jt);generalize ns[j]=nj at*;go_wp2_with fail;refine(xD base _ _ _ nj _ y.ij F C).L ?_;rintro e w2⟨v2,rfl,a5⟩;obtain⟨b2,b3⟩:=gO (a5.block y.ij a3 bT) (y.H a5);clear a5 y a3 Hn;go_wp2;go_roundw
  case rel=>exact⟨j+1,C,iq,b2,by rw[HE.o];simpa [cG,Nat.mul_add]using b3.o⟩
  simp[intOf];omega
 have b4:j=ns.length:=C;subst b4;have x2:=ax wr w.heap.size 2 _ 320 (0,0) a3;simp at x2;have b5:=gN (ag.only y.only λb a4 e=>au.o b e a4);have b6:Hid ((k+(3+8*ns.length)+(val.map B8).length)*1<=140737488355328):=by unfold Hid;simp;omega
 have b7:Hid (k+(3+8*ns.length)+(val.map B8).length<=maxLen):=by unfold Hid maxLen;simp;omega
 obtain⟨HB,b8⟩:=gO (LM kd ns val) (m9 kd ns val);go_wp2_with(at_builtin;refine m8 _ rfl (.tmp 32) (.tmp 34) 40 rfl base 5 i5 (.int .u8 0) 1 underlying40 ji ab ac ad rfl _ _ _ rfl y.ij _ _ rfl b5 (DO val) b7 b6 F ?_);intro v3 w3 ap;have b9:=gN (y.H ap);clear ap y;go_wp2;go_ret;refine⟨_,rfl,?_⟩;rw[b8.o,HB.o];simpa [cG]using b9.o
open Go.RowKit
def rQ(k n v:Int)(ds:List Int):Bool:=(ds.getD 0 0==k)&&(decide (ds.length<2)||(ds.getD 1 0==n))&&(decide (ds.length<3)||decide (ds.getD 2 0<=v))
def wP{b o:Nat}(y:∀j,(h:j<(ds.map B8).length)->w.cell? (U b (o+j))=some (ds.map B8)[j])(j)(h:j<ds.length):w.cell? (U b (o+j))=some (.int .u8 (ds.getD j 0)):=by have:=y j (je h);rw[this];simp[B8,h]
theorem GV(k n v)(b o c m)(d0 d1 d2)(r)(w)(hm:0<m)(hl:m<=1100000000000)(hb:b<w.heap.size)(y0:w.cell? (U b o)=some (.int .u8 d0))(y:1<m->w.cell? (U b (o+1))=some (.int .u8 d1))(A:2<m->w.cell? (U b (o+2))=some (.int .u8 d2))(P:0<=d0/\d0<=255)(V:0<=d1/\d1<=255)(Y:0<=d2/\d2<=255)(h:Hid (((d0==k)&&(decide (m<2)||(d1==n))&&(decide (m<3)||decide (d2<=v)))=r)):iU 260 #[.agg #[I k,I n,I v],gK (some (U b o)) m c] w λe w'=>e=gU (.bool r)/\Bl w w':=by
 obtain⟨Z,a0⟩:=P;obtain⟨a1,a2⟩:=V;obtain⟨a3,a4⟩:=Y;have m0:(0:Int)<(m:Int):=C
 cases H:(d0==k)
 .have F:Hid (r=false):=by rw[Hid,<-h.o,H];rfl
  clear h y A;go_enter func260,ntmps260;go_wp2;go_quiet(fail);go_wp2;go_ret;exact⟨mn F.symm,(jZ.alloc _).drewN _⟩
 by_cases l1:m<2
 .have F:Hid (r=true):=by rw[Hid,<-h.o,H];simp[l1];omega
  have m1:(m:Int)<2:=C;have M:(m:Int)<3:=C;clear h y A;go_enter func260,ntmps260;go_wp2;go_quiet(fail);go_wp2;go_ret;exact⟨mn F.symm,(jZ.alloc _).drewN _⟩
 have z1:=y C;have m1:(1:Int)<(m:Int):=C;have n1:decide ((m:Int)<2)=false:=ik
 cases L:(d1==n)
 .have F:Hid (r=false):=by rw[Hid,<-h.o,H,L];simp[l1]
  clear h y A;go_enter func260,ntmps260;go_wp2;go_quiet(fail);go_wp2;go_ret;exact⟨mn F.symm,(jZ.alloc _).drewN _⟩
 by_cases l2:m<3
 .have F:Hid (r=true):=by rw[Hid,<-h.o,H,L];simp[l2]
  have M:(m:Int)<3:=C;clear h y A;go_enter func260,ntmps260;go_wp2;go_quiet(fail);go_wp2;go_ret;exact⟨mn F.symm,(jZ.alloc _).drewN _⟩
 have z2:=A C;have M:(2:Int)<(m:Int):=C;have n2:decide ((m:Int)<3)=false:=ik;have F:Hid (r=decide (d2<=v)):=by rw[Hid,<-h.o,H,L];simp[l2]
 clear h y A;go_enter func260,ntmps260;go_wp2;go_quiet(fail);go_wp2;go_ret;exact⟨mn F.symm,(jZ.alloc _).drewN _⟩
def JF(k n v)(u)(ds)(w)(H:Sl w u (ds.map B8))(F:0<ds.length)(L:ds.length<=1100000000000)(M:∀d∈ds,0<=d/\d<=255):iU 260 #[.agg #[I k,I n,I v],u] w λe w'=>e=gU (.bool (rQ k n v ds))/\Bl w w':=by
 obtain⟨a,c,rfl,Y⟩|⟨b,o,c,rfl,P,A⟩:=H
 .simp_all
 have y:∀j,0<=ds.getD j 0/\ds.getD j 0<=255:=λj=>by by_cases h:j<ds.length;all_goals simp_all
 have V:=wP A 0 F;rw[ay];exact GV k n v b o c ds.length _ _ _ _ w F L P V (λh=>wP A 1 h) (λh=>wP A 2 h) (y 0) (y 1) (y 2) (gN rfl)
theorem Ap(k n v)(p)(u)(ds)(w)(V:p<w.heap.size)(Y:w.cell? (U p 0)=some u)(y:Sl w u (ds.map B8))(F:0<ds.length)(L:ds.length<=1100000000000)(h:∀d∈ds,0<=d/\d<=255):iU 259 #[.agg #[I k,I n,I v],O p] w λe w'=>e=gU (.bool (rQ k n v ds))/\Bl w w':=by
 obtain⟨a,c,e⟩:=y.len;simp only[ay]at e;subst e;obtain⟨M,A⟩:=gO y h;clear y h;go_enter func259,ntmps259;go_wp2_with fail;refine gS (JF k n v _ ds _ (M.bl (jZ.alloc _)) F L A) λw' P=>?_;go_wp2;go_ret;exact⟨rfl,(jZ.alloc _).H P⟩
def pq(w:World)(b o:Nat)(oX:List (Int×Int×Int)):Prop:=
 b<w.heap.size/\∀j,(h:j<oX.length)->w.cell? (U b (o+j*3))=some (I oX[j].1)/\w.cell? (U b (o+j*3+1))=some (I oX[j].2.1)/\w.cell? (U b (o+j*3+2))=some (I oX[j].2.2)
theorem zH(b o c)(oX)(p)(u)(ds)(w)(F:pq w b o oX)(hp:p<w.heap.size)(M:w.cell? (U p 0)=some u)(hu:Sl w u (ds.map B8))(h0:0<ds.length)(hl:ds.length<=1100000000000)(P:∀d∈ds,0<=d/\d<=255)(hs:oX.length<=1000):iU 284 #[gK (some (U b o)) oX.length c,.func (.func 259) #[] #[O p]] w λe w'=>∃n:Int,e=gU (I n)/\(0<=n↔∃s∈oX,rQ s.1 s.2.1 s.2.2 ds=true)/\Bl w w':=by
 obtain⟨a1,Hu,V,Y⟩:=kN F hu P M;have a2:=F.1;clear F hu P M;go_enter func284,ntmps284;go_wp2;go_loopw[8](λi wr=>∃k:Nat,k<=oX.length/\i=I k/\Bl w wr/\∀s∈oX.take k,¬rQ s.1 s.2.1 s.2.2 ds=true) λi _=>oX.length-(intOf i).toNat
 case atStart=>exact⟨0,jR,rfl,jZ,bz⟩
 obtain⟨k,hk,rfl,h,Z⟩:=hrel;have a0:=gN Z;clear Z;by_cases jt:k<oX.length
 .obtain⟨q0,q1,q2⟩:=a1.2 k jt;obtain⟨g0,g1,g2⟩:=h.M a2 q0 q1 q2;have Hm:Hid (oX[k]∈oX):=aL jt;have Ht:Hid (oX.take (k+1)=oX.take k++[oX[k]]):=aM jt;clear q0 q1 q2;generalize oX[k]=sh at*;obtain⟨s1,s2,s3⟩:=sh
  cases hf:rQ s1 s2 s3 ds
  .have Hf:=gN hf;clear hf;go_wp2_with fail;refine(Ap s1 s2 s3 p u ds _ (af hp h.lt) ((h.cell hp).H Y) (Hu.bl h) h0 hl V).L ?_;rw[Hf.o];rintro e w'⟨rfl,A⟩;go_wp2;go_roundw
   case rel=>
    refine⟨k+1,C,iq,h.H A,?_⟩;rw[Ht.o];intro y hy;obtain hy|hy:=aT.1 hy
    .exact a0 y hy
    simp at hy;subst hy;rw[Hf.o];simp
   case measure=>simp[intOf];omega
  have Hf:=gN hf;clear hf;go_wp2_with fail;refine(Ap s1 s2 s3 p u ds _ (af hp h.lt) ((h.cell hp).H Y) (Hu.bl h) h0 hl V).L ?_;rw[Hf.o];rintro e w'⟨rfl,A⟩;go_wp2;go_ret;exact⟨_,rfl,iff_of_true C ⟨_,Hm,Hf⟩,h.H A⟩
 go_wp2;go_ret;refine⟨_,rfl,iff_of_false C ?_,h⟩;rintro⟨y,hy,hz⟩;refine a0 y ?_ hz;rw[bI C];exact hy
theorem rN(b o c)(oX)(p)(u)(ds)(w)(h:pq w b o oX)(M:p<w.heap.size)(y:w.cell? (U p 0)=some u)(P:Sl w u (ds.map B8))(V:0<ds.length)(Y:ds.length<=1100000000000)(A:∀d∈ds,0<=d/\d<=255)(Z:oX.length<=1000):iU 261 #[gK (some (U b o)) oX.length c,.func (.func 259) #[] #[O p]] w λe w'=>e=gU (.bool (oX.any λs=>rQ s.1 s.2.1 s.2.2 ds))/\Bl w w':=by
 go_enter func261,ntmps261;go_wp2_with fail;refine(zH b o c oX p u ds _ h M y P V Y A Z).L ?_;rintro e w'⟨n,rfl,H,F⟩;have Hn:=gN H;clear H;go_wp2;go_ret;refine⟨mn ?_,F⟩;rw[dr];simpa using Hn.o
end
section
def Tryz.YW(w)(a)(n c n' c'):(binOp .eql 40 (gK a n c) (gK none n' c')).run prog w=.ok (.bool a.isNone) w:=Lib.run_eql_slice_nil w _ _ a n c n' c' underlying40
theorem pA(v)(ys:List Int)(w)(hv:Bs w v (ys.map B8))(hl:ys.length<=1100000000000):iU 87 #[v] w λe w'=>∃v',e=gU v'/\Bl w w'/\w'.ownsRow w.heap.size 5 1 v' ys.length (ys.map B8):=by
 have M:=Tryz.YW;obtain⟨i5,ji,h,y,F⟩:=fx Tryz.Dl;obtain⟨rfl,P⟩|⟨V,c,rfl,Y⟩:=hv
 .simp at P;subst P;go_enter func87,ntmps87;go_wp2;go_ret;exact⟨_,rfl,jZ,m7⟩
 have HB:Hid (Bs w (gK (some V) (ys.map B8).length c) (ys.map B8)):= .inr ⟨V,c,rfl,Y⟩;have H:Hid ((0+(ys.map B8).length)*1<=140737488355328):=by unfold Hid;simp;omega
 have L:Hid (0+(ys.map B8).length<=maxLen):=by unfold Hid maxLen;simp;omega
 have HO:=gN (World.ownsRow_lit (base:=w.heap.size) (e:=5) (size:=1) w #[] 0 jr (by unfold maxLen;omega) rfl);clear Y;go_enter func87,ntmps87;go_wp2_with(at_builtin;refine m8 _ rfl (.tmp 5) (.tmp 6) 40 rfl w.heap.size 5 i5 (.int .u8 0) 1 underlying40 ji h y F rfl _ 0 [] rfl HO _ _ rfl (HB.bl (jZ.alloc _)) (DO ys) L H bz ?_);intro v' w' Z;have HG:=gN Z;clear Z;go_wp2;go_ret;refine⟨_,rfl,(jZ.alloc _).A HG.only λn hn=>by simp[Value.ownBlock]at hn;omega,?_⟩;have:=HG.ij;simpa using this
def js(ys:List Int):ByteArray:=ys.foldl (λr n=>r.push (UInt8.ofNat n.toNat)) ByteArray.empty
theorem mm(u)(ys)(w)(L:Sl w u (ys.map B8)):(convert 40 9 u).run prog w=.ok (.string (js ys)) w:=by
 have y:∀a c,(∀j v,(ys.map B8)[j]?=some v->w.cell? (a.add j)=some v)->(convert 40 9 (gK (some a) ys.length c)).run prog w=.ok (.string (js ys)) w:=by intro a c h;have F:=run_loadCells_list (P:=prog) (w:=w) a (ys.map B8) h;rw[ay]at F;exact run_bytesToString w a ys.length c ys F
 obtain⟨a,c,rfl,H⟩|⟨b,o,c,rfl,V,M⟩:=L
 .simp at H;subst H
  cases a with
  |none=>rw[run_convert_bytes_string w 40 9 5 none 0 c underlying40 underlying5 underlying9];simp[Conv.bytesToString];rfl
  |some a=>exact y a c λj v h=>mR h
 rw[ay];refine y (U b o) c λj v h=>?_;obtain⟨A,rfl⟩:=aj.1 h;rw[nW];exact M j A
def MM(u v)(ys:List Int)(w)(h:Sl w u (ys.map B8))(y:Sl w v (ys.map B8)):Calls prog 231 #[u,v] w λe w'=>e=gU (.bool true)/\w'=w:=by
 obtain⟨a,c,e⟩:=h.len;obtain⟨H,c',e'⟩:=y.len;have A:=mm u ys w h;have F:=mm v ys w y;subst e e';simp at A F|-;go_wp2;go_ret;simp_all
def BH(u)(ds:List Int)(w)(y:Sl w u (ds.map B8))(h:ds.length<3):Calls prog 262 #[u] w λe w'=>e=gU (.tuple #[I 0,.bool false])/\Bl w w':=by
 obtain⟨a,c,e⟩:=y.len;go_wp2;go_ret2;exact⟨rfl,jZ⟩
theorem Fx(u)(ds:List Int)(w)(H:Sl w u (ds.map B8))(h:3<=ds.length)(hl:ds.length<=1100000000000)(y:∀d∈ds,0<=d/\d<=255):iU 262 #[u] w λe w'=>e=gU (.tuple #[I (3+ds.getD 1 0*8+ds.getD 2 0),.bool (decide (3+ds.getD 1 0*8+ds.getD 2 0<=ds.length))])/\Bl w w':=by
 obtain⟨a,c,rfl,F⟩|⟨b,o,c,rfl,hb,A⟩:=H
 .simp at F;simp[F]at h
 have y1:=wP A 1 C;have y2:=wP A 2 C;have L:=y (ds.getD 1 0) (by rw[List.getD,ah C];exact aL _);have M:=y (ds.getD 2 0) (by rw[List.getD,ah C];exact aL _);generalize ds.getD 1 0=d1 at*;generalize ds.getD 2 0=d2 at*;obtain⟨P,V⟩:=L;obtain⟨Y,Z⟩:=M;simp only[ay]at A|-;clear A y;go_enter func262,ntmps262;go_wp2;go_quiet(fail);go_wp2;go_ret2;exact⟨rfl,jZ.drewN _⟩
open Go.RowKit
attribute [local go_sem ↓] Go.wp_at_zero Go.wp_at_succ
def Tryz.tJ:(prog.info? 3).map (λi=>(i.zero,i.size,i.bytes))=some (some (I 0),1,8):=rfl
def Dg(kd)(ns val):(j5 kd ns val)[0]?=some kd:=rfl
def xz(kd)(ns val):(j5 kd ns val)[1]?=some (ns.length:Int):=rfl
theorem OQ(y:List Int):∀(j i:Nat) (h:j<y.length),i<8->(y.flatMap te)[8*j+i]?=(te y[j])[i]?:=by
 induction y with
 |nil=>intro j i h;simp at h
 |cons n r A=>
  intro j i h F;rw[dP]
  cases j with
  |zero=>rw[aB (by rw[nO];omega)];simp
  |succ j=>rw[aC (by rw[nO];omega),nO,show 8*_+i-8=8*j+i by omega,A j i (je h) F];simp
def PC(kd)(ns val)(j i)(h:j<ns.length)(y:i<8):(j5 kd ns val)[3+8*j+i]?=(te ns[j])[i]?:=by unfold j5;rw[aC ik,aB (by rw[uv];simp;omega),<-OQ ns j i h y];congr 1;simp;omega
def RI(kd)(ns val)(i):(j5 kd ns val)[3+8*ns.length+i]?=val[i]?:=by unfold j5;rw[aC ik,aC (by rw[uv];simp;omega)];congr 1;rw[uv];simp;omega
def TQ(q l c l' c')(A B)(h:l=l')(y:c=c'):gK (if q=8 then some A else some B) l c=gK (some (if q=8 then A else B)) l' c':=by subst h y;split<;>rfl
def Og{wr W':World}{kd:Int}{y V:Value}(F:Bl w wr)(h:Bl wr W')(H:wr.heap[w.heap.size]?=some (ig c0 320 (0,0)))(L:wr.heap[w.heap.size+1]?=some (ig #[I kd,y,OO] 320 (0,0)))(M:wr.ownsRow w.heap.size 3 1 y k ys)(P:W'.grownBy w3 y.ownBlock)(Z:w3.ownsRow w.heap.size 3 1 V n xs):Bl w (w3.setCell (U (w.heap.size+1) 1) V)/\(w3.setCell (U (w.heap.size+1) 1) V).heap[w.heap.size]?=some (ig c0 320 (0,0))/\(w3.setCell (U (w.heap.size+1) 1) V).heap[w.heap.size+1]?=some (ig #[I kd,V,OO] 320 (0,0))/\(w3.setCell (U (w.heap.size+1) 1) V).ownsRow w.heap.size 3 1 V n xs:=by
 have la:=(ae.1 H).1;have lb:=(ae.1 L).1;have A3:w3.heap[w.heap.size]?=some (ig c0 320 (0,0)):=by rw[P.block _ (af la h.lt) λe=>gW M H bT e.symm,h.heap la];exact H
 have B3:w3.heap[w.heap.size+1]?=some (ig #[I kd,y,OO] 320 (0,0)):=by rw[P.block _ (af lb h.lt) λe=>gW M L bT e.symm,h.heap lb];exact L
 refine⟨?_,?_,?_,?_⟩
 .have b3:Bl w w3:=(F.H h).A (gI.A P) λb e=>(M.lt b e.symm).1;exact ZY b3 rE _
 .rw[Z8 _ _ _ _ bz];exact A3
 .exact fy w3 (w.heap.size+1) 1 _ 320 _ B3
 exact mW Z λb Y=>Z8 _ _ _ _ λe=>gW Z B3 bT (kz Y e)
theorem Pz(b o c)(kd)(ns val)(w)(hb:b<w.heap.size)(hc:∀j d,(j5 kd ns val)[j]?=some d->w.cell? (U b (o+j))=some (B8 d))(hm:(j5 kd ns val).length<=c)(h0:0<=kd)(h1:kd<=255)(b0:1<=ns.length)(b1:ns.length<=255)(b3:val.length<=255)(ak:∀n∈ns,(Lit.int .i64 n).wf=true)(b4:c<=9223372036854775807):iU 263 #[gK (some (U b o)) (j5 kd ns val).length c] w λe w'=>∃nv vv,e=gU (.agg #[I kd,nv,vv])/\Bl w w'/\w'.ownsRow w.heap.size 3 1 nv ns.length (ns.map I)/\w'.ownsRow w.heap.size 5 1 vv val.length (val.map B8):=by
 obtain⟨i3,ji,al,am,an⟩:=fx Tryz.tJ;have y0:=hc 0 _ (Dg kd ns val);have y1:=hc 1 _ (xz kd ns val);unfold B8 at y0 y1;rw[fj]at y0;have a8:=m9 kd ns val;have Hc:=gN hc;clear hc;generalize hM:(j5 kd ns val).length=m at*;obtain⟨HM,a9⟩:=gO hM a8;have b5:11<=m:=C;have b6:m<=3+8*255+255:=C;clear hM a8;have i1:(1:Int)<(m:Int):=C;have i0:(0:Int)<(m:Int):=C;have b7:(3:Int)<=(m:Int):=C;have i4:(m:Int)<=(c:Int):=C;go_enter func263,ntmps263;have c3:¬c=3:=C;have bR:Bl w ((w.alloc Br).alloc (ig #[I kd,OO,OO] 320)):=((Bl.refl w).alloc _).alloc _;have BR:=gN bR;have h2:=(fJ (w.alloc Br) (ig #[I kd,OO,OO] 320) w.heap.size bz).H (ao w _);have h3:((w.alloc Br).alloc (ig #[I kd,OO,OO] 320)).heap[w.heap.size+1]?=some (ig #[I kd,OO,OO] 320 (0,0)):=by have:=ao (w.alloc Br) (ig #[I kd,OO,OO] 320);simpa using this
 obtain⟨H2,H3⟩:=gO h2 h3;clear bR h2 h3;go_wp2;go_loopw[4,16](λaa i wr=>∃(j:Nat) (nv:Value) (ad:Addr),j<=ns.length/\i=I j/\aa=gK (some ad) (m-3-8*j) (c-3-8*j)/\(0<m-3-8*j->ad=(U b (o+3+8*j)))/\Bl w wr/\
  wr.heap[w.heap.size]?=some (ig #[I 0,OO,OO] 320 (0,0))/\wr.heap[w.heap.size+1]?=some (ig #[I kd,nv,OO] 320 (0,0))/\wr.ownsRow w.heap.size 3 1 nv j ((ns.take j).map I)) λ_ i _=>ns.length-(intOf i).toNat
 case atStart=>exact⟨0,_,_,C,rfl,rfl,λ_=>rfl,BR,H2,H3,m7⟩
 clear BR H2 H3;obtain⟨j,nv,ad,hj,rfl,rfl,mC,M,hA,hB,V⟩:=hrel;obtain⟨HA,HB,y⟩:=iI hA hB V;obtain⟨na,nc,en⟩:∃a c,nv=gK a j c:=by obtain⟨a',c',e'⟩:=(jD V).len;rw[jQ V]at e';exact⟨a',c',e'⟩
 subst en;clear hA hB V;by_cases jt:j<ns.length
 .have Y:=a9.o;have b8:8<=m-3-8*j:=C;have ab:=mC C;subst ab;have b9:8<=c-3-8*j:=C;have a6:Hid (Sl wr (gK (some (U b (o+3+8*j))) 8 (c-3-8*j)) ((te ns[j]).map B8)):=by
   refine .inr ⟨b,o+3+8*j,_,by rw[ay,nO],af hb M.lt,λi hi=>?_⟩;have ac:i<8:=by simpa [nO]using hi
   have:=Hc (3+8*j+i) _ ((PC kd ns val j i jt ac).H (ah (by rw[nO];exact ac)));rw[M.cell hb,show o+3+8*j+i=o+(3+8*j+i) by omega,this];simp
  obtain⟨ap,Ht⟩:=gO (ak _ (aL jt)) (aM jt);have q1:=ax wr (w.heap.size+1) 1 _ 320 (0,0) HB;have f1:=aP wr (w.heap.size+1) 1 _ 320 HB;simp at q1;have lR:w.heap.size+1<wr.heap.size:=(ae.1 HB).1;have nR:=gN (gW y HB bT);have aq:Hid ((j+1)*8<=140737488355328):=nC;have ar:Hid (j+1<=maxLen):=nZ;generalize ns[j]=nj at*;have ba:(8:Int)<=((c-3-8*j:Nat):Int):=C;have bb:(8:Int)<=((m-3-8*j:Nat):Int):=C;have bc:((m-3-8*j:Nat):Int)<=((c-3-8*j:Nat):Int):=C;clear mC Y y0 y1;go_wp2;go_region_law
   ((first
     |(refine step_append_lies _ ko _ _ _ ko w.heap.size 3 i3 _ 1 8 underlying24 ji al am an rfl C _ j _ ko ((y.alloc _).drew) (U wr.heap.size 0) 1 1 [I nj] ko ko (fW (cs:=#[I nj]) (t:=3) (fr:=(0,0)) (ao wr _)) tx C ar aq ik (wr.heap.size+1) bz ?_;intro gg cap w3 Z A au aY;have kc:=(C4 (((Bl.refl wr).alloc _).drew) A (o:=1) lR nR).1.H q1;have kf:=(C4 (((Bl.refl wr).alloc _).drew) A (o:=1) lR nR).2.H f1)
     |(go_simp;go_at_call 285;refine(J0 _ nj _ (by exact a6.bl (jZ.drew)) ap).L ?_;rintro e w'⟨rfl,rfl⟩)))
  all_goals
   have HP:=Og M (((Bl.refl wr).alloc _).drew) HA HB y A Z;obtain⟨P1,P2,P3,P4⟩:=kN HP.1 HP.2.1 HP.2.2.1 HP.2.2.2;clear HP A Z au kc kf HA HB y a6 M q1 f1;go_wp2
  all_goals
   go_roundw
   case rel=>refine⟨j+1,_,_,C,iq,TQ _ _ _ _ _ _ _ C C,λh=>?_,P1,P2,P3,by rw[Ht.o,aZ];exact P4⟩;rw[az C,show o+3+8*j+8=o+3+8*(j+1) by omega]
   case measure=>simp[intOf];omega
 have av:j=ns.length:=C;subst av;have Y:=a9.o;have a7:m-3-8*ns.length=val.length:=C;have HV:Hid (Bs wr (gK (some ad) (m-3-8*ns.length) (c-3-8*ns.length)) (val.map B8)):=by refine .inr ⟨ad,_,by rw[ay,a7],λi u hi=>?_⟩;rw[aK]at hi;obtain⟨d,hd,rfl⟩:=bN.1 hi;have bd:=(aj.1 hd).1;rw[mC C,nW,M.cell hb,show o+3+8*ns.length+i=o+(3+8*ns.length+i) by omega];exact Hc _ _ ((RI kd ns val i).H hd)
 obtain⟨q0,q1⟩:=vg HB 0 1 rfl;have lR:w.heap.size+1<wr.heap.size:=(ae.1 HB).1;clear mC Y y0 y1 a7;go_wp2_with fail;refine(pA _ val _ HV C).L ?_;rintro e w2⟨vv,rfl,b2,a3⟩;obtain⟨aw,a4,a5⟩:=iI ((jY b2).jH y λ_ _ e=>e) ((b2.heap C).H HA) ((b2.heap lR).H HB);obtain⟨ag,ai⟩:=gO a3 (M.H b2);obtain⟨va,vc,ev⟩:∃a c,vv=gK a val.length c:=by obtain⟨a',c',e'⟩:=(jD a3).len;rw[jQ a3]at e';exact⟨a',c',e'⟩
 subst ev;obtain⟨p0,p1,p2⟩:=sy a5 0 1 2 rfl;have g2:=aP w2 (w.heap.size+1) 2 _ 320 a5;obtain⟨a0,a1,a2⟩:=sy a4 0 1 2 rfl;obtain⟨k0,k1,k2⟩:=Ff a4 0 1 2;simp at p0 p1 p2 a0 a1 a2;clear q0 q1 a3 b2 HV HA HB y M;go_wp2;have F:gI (λb=>b=w.heap.size\/b=w.heap.size+1) w2 _:=((((gI.refl (λb=>b=w.heap.size\/b=w.heap.size+1) w2).setCell (U (w.heap.size+1) 2) (.inl (.inr rfl)) (mP va val vc)).setCell (U w.heap.size 0) (.inl (.inl rfl)) (I kd)).setCell (U w.heap.size 1) (.inl (.inl rfl)) (mP na ns nc)).setCell (U w.heap.size 2) (.inl (.inl rfl)) (mP va val vc);refine aG (v:= .agg #[I kd,gK na ns.length nc,gK va val.length vc]) (by simp[results,results263,go_sem,a0,a1,a2]) rfl ⟨_,_,rfl,?_,?_,?_⟩
 .exact ai.A F (λn hn=>by obtain h|h:=hn<;>omega)
 .have ht:ns.take ns.length=ns:=bZ;have:=aw.o;rw[ht]at this;refine F.jH this λb P e=>?_;obtain e|e:=e
  .exact gW this a4 bT (kz P e)
  exact gW this a5 bT (kz P e)
 have this:=iE (base':=w.heap.size) ag λb P=>aF C (ag.lt b P).1;refine F.jH this λb P e=>?_;obtain e|e:=e
 .exact gW this a4 bT (kz P e)
 exact gW this a5 bT (kz P e)
end
section
structure Rc where
 kd:Int
 ns:List Int
 val:List Int
def Rc.bytes(r:Rc):List Int:=j5 r.kd r.ns r.val
def qG(rs:List Rc):List Int:=rs.flatMap Rc.bytes
def NH(r)(rs):qG (r::rs)=r.bytes++qG rs:=rfl
def Rc.len(r:Rc):r.bytes.length=3+8*r.ns.length+r.val.length:=m9 _ _ _
structure Rc.Ok(oX:List (Int×Int×Int))(r:Rc):Prop where
 k0:0<=r.kd
 k1:r.kd<=255
 n0:1<=r.ns.length
 n1:r.ns.length<=255
 v1:r.val.length<=255
 wf:∀n∈r.ns,(Lit.int .i64 n).wf=true
 ZE:∀d∈r.val,0<=d/\d<=255
 fits:∃s∈oX,s.1=r.kd/\s.2.1=r.ns.length/\(r.val.length:Int)<=s.2.2
def wN(n)(j):0<=sN n j/\sN n j<=255:=by unfold sN;omega
def Rc.range{oX:List (Int×Int×Int)}{r:Rc}(h:r.Ok oX):∀d∈r.bytes,0<=d/\d<=255:=by
 intro d hd;simp only[Rc.bytes,j5,aT,bh,dB,or_false,eB]at hd;have:=h.k0;have:=h.k1;have:=h.n1;have:=h.v1;obtain (rfl|rfl|rfl)|⟨n,_,hd⟩|hd:=hd
 .omega
 .omega
 .omega
 .simp only[te,aD]at hd;obtain⟨j,_,rfl⟩:=hd;exact wN n j
 exact h.ZE d hd
def Rc.QE{oX:List (Int×Int×Int)}{r:Rc}(h:r.Ok oX)(n)(L:0<n)(rest)(ds)(y:ds=(r.bytes++rest).take n):(oX.any λs=>rQ s.1 s.2.1 s.2.2 ds)=true:=by
 obtain⟨s,M,P,V,e3⟩:=h.fits;rw[cK];refine⟨s,M,?_⟩;have hl:=r.len;have Y:ds[0]?=some r.kd:=by rw[y,cZ,aE L,aB C];exact Dg _ _ _
 have Z:1<n->ds[1]?=some (r.ns.length:Int):=λA=>by rw[y,cZ,aE A,aB C];exact xz _ _ _
 have g2:2<n->ds[2]?=some (r.val.length:Int):=λF=>by rw[y,cZ,aE F,aB C];simp[Rc.bytes,j5]
 have H:ds.length<=n:=by rw[y];exact List.length_take_le _ _
 unfold rQ;rw[bL,bL];refine⟨⟨by simp[List.getD,Y,P],?_⟩,?_⟩
 .by_cases A:ds.length<2
  .simp[A]
  simp[List.getD,Z C,V]
 by_cases F:ds.length<3
 .simp[F]
 simp[List.getD,g2 C];right;omega
open Go.RowKit
attribute [local go_sem ↓] Go.wp_at_zero Go.wp_at_succ
def Tryz.SP:(prog.info? 320).map (λi=>(i.zero,i.size,i.bytes))=some (some (.agg #[I 0,OO,OO]),3,56):=rfl
def off(rs:List Rc)(k:Nat):Nat:=(qG (rs.take k)).length
def wH(rs):off rs 0=0:=rfl
def yG(a b):qG (a++b)=qG a++qG b:=by simp[qG]
def FE(rs)(k)(h:k<rs.length):off rs (k+1)=off rs k+rs[k].bytes.length:=by unfold off;rw[aM h,yG];simp[qG]
def UK(rs):off rs rs.length=(qG rs).length:=by simp[off]
def Ln(rs)(k)(h:k<rs.length):qG rs=qG (rs.take k)++(rs[k].bytes++qG (rs.drop (k+1))):=by
 conv=>lhs;rw[<-dK k rs,cm h]
 rw[yG,NH]
def left(rs:List Rc)(n k:Nat)(h:k<rs.length):List Int:=(rs[k].bytes++qG (rs.drop (k+1))).take (n-off rs k)
def AW{rs:List Rc}(h:k<rs.length)(y:n<=(qG rs).length):(left rs n k h).length=n-off rs k:=by have e:=Z5 List.length (Ln rs k h);rw[aO]at e;unfold left;rw[bH];unfold off;omega
def Gr{rs:List Rc}(h:k<rs.length)(j)(y:j<n-off rs k):(left rs n k h)[j]?=(qG rs)[off rs k+j]?:=by unfold left;have e:=Ln rs k h;generalize rs[k].bytes++qG _=z at*;rw[cZ,aE y,e,aC (by unfold off;omega)];congr 1;unfold off;omega
def Jz{oX:List (Int×Int×Int)}{rs:List Rc}(h:k<rs.length)(y:∀r∈rs,r.Ok oX):∀d∈left rs n k h,0<=d/\d<=255:=by
 intro d hd;have hd:=cQ hd;obtain hd|hd:=aT.1 hd
 .exact Rc.range (y _ (aL h)) d hd
 obtain⟨r,A,hd⟩:=eB.1 hd;exact Rc.range (y r (eC A)) d hd
def M7{rs:List Rc}(h:k<rs.length)(F:3<=n-off rs k):3+(left rs n k h).getD 1 0*8+(left rs n k h).getD 2 0=(rs[k].bytes.length:Int):=by
 have H:=rs[k].len;have y:(left rs n k h)[1]?=some (rs[k].ns.length:Int):=by unfold left;rw[cZ,aE C,aB C];exact xz _ _ _
 have A:(left rs n k h)[2]?=some (rs[k].val.length:Int):=by unfold left;rw[cZ,aE C];simp[Rc.bytes,j5]
 simp only[List.getD,y,A,eN];omega
structure xr(base:Nat)(w:World)(v:Value)(rs:List Rc)(xs:List Value):Prop where
 ij:w.ownsRow base 320 3 v rs.length xs
 len:xs.length=3*rs.length
 ns:∀j,(h:j<rs.length)->∃nv,xs[3*j+1]?=some nv/\w.ownsRow base 3 1 nv rs[j].ns.length (rs[j].ns.map I)
 val:∀j,(h:j<rs.length)->∃vv,xs[3*j+2]?=some vv/\w.ownsRow base 5 1 vv rs[j].val.length (rs[j].val.map B8)
 kd:∀j,(h:j<rs.length)->xs[3*j]?=some (I rs[j].kd)
def xr.nil(base)(w):xr base w OO [] []:=⟨m7,rfl,λj h=>mR h,λj h=>mR h,λj h=>mR h⟩
def xr.only{base:Nat}{rs:List Rc}(h:xr base w v rs xs)(P:gI S w w')(V:∀b,b<w.heap.size->S b->base<=b->∃c e f,w.heap[b]?=some (ig c e f)/\e≠320/\e≠3/\e≠5):xr base w' v rs xs:=by
 have y:∀{e:TypeId} {size:Nat} {u:Value} {n:Nat} {ys:List Value},(e=320\/e=3\/e=5)->w.ownsRow base e size u n ys->w'.ownsRow base e size u n ys:=by intro e size u n ys Y A;refine P.jH A λb M Z=>?_;obtain⟨F,H⟩:=A.lt b M;obtain⟨c,e',f,hh,n1,n2,n3⟩:=V b H Z F;refine gW A hh ?_ M;obtain rfl|rfl|rfl:=Y<;>exact λh=>by subst h;contradiction
 refine⟨y (.inl rfl) h.ij,h.len,λj L=>?_,λj L=>?_,h.kd⟩
 .obtain⟨nv,a,b⟩:=h.ns j L;exact⟨nv,a,y (.inr (.inl rfl)) b⟩
 obtain⟨vv,a,b⟩:=h.val j L;exact⟨vv,a,y (.inr (.inr rfl)) b⟩
def xr.bl{base:Nat}{rs:List Rc}(h:xr base w v rs xs)(y:Bl w w'):xr base w' v rs xs:=
 h.only (jY y) λ_ _ e=>e.elim
def xr.push{base:Nat}{V F H:Value}{rs:List Rc}{r:Rc}(h:xr base w v rs xs)(hn:w.ownsRow base 3 1 F r.ns.length (r.ns.map I))(hv:w.ownsRow base 5 1 H r.val.length (r.val.map B8))(P:w.grownBy w3 v.ownBlock)(Y:w3.ownsRow base 320 3 V (rs.length+1) (xs++[I r.kd,F,H])):xr base w3 V (rs++[r]) (xs++[I r.kd,F,H]):=by
 have A:∀{e:TypeId} {size:Nat} {u:Value} {n:Nat} {ys:List Value},e≠320->w.ownsRow base e size u n ys->w3.ownsRow base e size u n ys:=by intro e size u n ys Z M;exact(gI.A P).jH M λb hb hS=>lH h.ij M (Ne.symm Z) b hS.symm hb
 have a0:=h.len;refine⟨by rw[aO];exact Y,by simp[h.len];omega,λj L=>?_,λj L=>?_,λj L=>?_⟩;all_goals
  rw[aO,dD]at L;by_cases y:j<rs.length
 .obtain⟨u,a,b⟩:=h.ns j y;rw[aB C];exact⟨u,a,by simp only[dI y];exact A bT b⟩
 .obtain rfl:j=rs.length:=C;simp_all
 .obtain⟨u,a,b⟩:=h.val j y;rw[aB C];exact⟨u,a,by simp only[dI y];exact A bT b⟩
 .obtain rfl:j=rs.length:=C;simp_all
 .rw[aB C];simp only[dI y];exact h.kd j y
 obtain rfl:j=rs.length:=C;rw[aC C,show 3*rs.length-xs.length=0 by omega];simp
theorem PX(rs):∀k,k<=rs.length->3*k<=off rs k:=by
 intro k;induction k with
 |zero=>intro _;omega
 |succ k y=>intro h;rw[FE rs k h];have:=rs[k].len;omega
def lenOf:Value->Nat
 | .slice _ n _=>n
 |_=>0
def SM{wr:World}{rs:List Rc}{b o c:Nat}(A:b<w.heap.size)(F:n<=(qG rs).length)(M:∀j d,j<n->(qG rs)[j]?=some d->w.cell? (U b (o+j))=some (B8 d))(y:Bl w wr)(h:k<rs.length):Sl wr (gK (some (U b (o+off rs k))) (n-off rs k) (c-off rs k)) ((left rs n k h).map B8):=by refine .inr ⟨b,o+off rs k,_,by rw[ay,AW h F],af A y.lt,λi H=>?_⟩;rw[ay,AW h F]at H;have L:off rs k+i<(qG rs).length:=C;have e:=Gr h i H;rw[y.cell A,cG,M _ _ C (ah L)];rw[ah L]at e;have:=(aj.1 e).2;simp_all
theorem M5(ad)(b o c n bs os cs)(rs)(oX)(w)(hn:n<=(qG rs).length)(bE:n<=c)(bV:n<=1100000000000)(bW:c<=9223372036854775807)(mC:0<n->ad=some (U b o)/\b<w.heap.size)(hc:∀j d,j<n->(qG rs)[j]?=some d->w.cell? (U b (o+j))=some (B8 d))(b3:pq w bs os oX)(hs:oX.length<=1000)(ok:∀r∈rs,r.Ok oX):iU 233 #[gK ad n c,gK (some (U bs os)) oX.length cs] w λe w'=>∃k v xs,e=gU (.tuple #[v,.bool true])/\k<=rs.length/\off rs k<=n/\(∀h:k<rs.length,n<off rs k+rs[k].bytes.length)/\xr w.heap.size w' v (rs.take k) xs/\Bl w w':=by
 obtain⟨bl,ji,bm,bn,bo⟩:=fx Tryz.SP;obtain⟨Hc,b4,a5⟩:=iI hc mC b3;obtain⟨Ok,Hn⟩:=gO ok hn;clear hc mC b3 ok hn;go_enter func233,ntmps233;have bR:Hid (Bl w (w.alloc (ig #[gK ad n c] 40))):=((Bl.refl w).alloc _);have hX:=gN (ao w (ig #[gK ad n c] 40));go_wp2;go_loopw[6](λv wr=>∃(k:Nat) (xs:List Value) (ad va:Option Addr) (vc:Nat),v=gK va k vc/\k<=rs.length/\off rs k<=n/\(0<n-off rs k->ad=some (U b (o+off rs k))/\b<w.heap.size)/\wr.heap[w.heap.size]?=some (ig #[gK ad (n-off rs k) (c-off rs k)] 40 (0,0))/\Bl w wr/\xr w.heap.size wr v (rs.take k) xs) λv _=>rs.length-lenOf v
 case atStart=>exact⟨0,[],ad,none,0,rfl,jR,by rw[wH];omega,by rw[wH];exact b4,by rw[wH];exact hX,bR,xr.nil _ _⟩
 clear bR hX b4;obtain⟨k,xs,bX,va,vc,rfl,hk,a6,mC,hX,V,hR⟩:=hrel;obtain⟨HX,HR⟩:=gO hX hR;have x0:=ax wr w.heap.size 0 _ 40 (0,0) hX;have xf:=aP wr w.heap.size 0 _ 40 hX;simp at x0;have lX:w.heap.size<wr.heap.size:=(ae.1 hX).1;clear hX hR;by_cases jt:off rs k<n
 .have y:k<rs.length:=by
   obtain h|h:=Nat.lt_or_ge k rs.length
   .exact h
   obtain rfl:k=rs.length:=C;have:=Hn.o;rw[UK]at jt;omega
  obtain⟨b5,hb⟩:=mC C;subst b5;obtain⟨HL,Y,ap⟩:=iI (SM (c:=c) hb Hn Hc V y) (AW y Hn) (Jz (n:=n) y Ok);obtain⟨ai,b6⟩:=gO (Rc.QE (Ok _ (aL y)) (n-off rs k) C (qG (rs.drop (k+1))) (left rs n k y) rfl) λh=>M7 (n:=n) y h;have ak:Hid (pq wr bs os oX):=⟨af a5.1 V.lt,λj h=>by rw[V.cell a5.1,V.cell a5.1,V.cell a5.1];exact a5.2 j h⟩;have bC:(0:Int)<((n-off rs k:Nat):Int):=C;clear mC;go_wp2_with fail;refine(rN bs os cs oX w.heap.size _ (left rs n k y) wr ak lX x0 HL (qD Y.o) (qD Y.o) ap hs).L ?_;rw[ai.o];rintro e w2⟨rfl,Z⟩;have x2:=(Z.cell lX).H x0;obtain⟨aq,ar,b7⟩:=iI (HL.bl Z) (HR.bl Z) ((Z.heap lX).H HX);have al:=V.H Z;have aa:=af lX Z.lt;clear HL HR HX ak V Z x0 xf lX ai;by_cases h3:n-off rs k<3
  .go_wp2_with fail;refine gS (BH _ (left rs n k y) w2 aq (jf Y.o h3)) λw3 M=>?_;obtain⟨a7,F⟩:=gO (ar.bl M) (al.H M);have au:Hid (n<off rs k+rs[k].bytes.length):=by have:=rs[k].len;unfold Hid;omega
   go_wp2;go_ret2;exact⟨k,_,xs,rfl,hk,a6,λ_=>au.o,a7,F⟩
  go_wp2_with fail;refine(Fx _ (left rs n k y) w2 aq (qD Y.o) (qD Y.o) ap).L ?_;rw[b6.o C,Y.o];rintro e w3⟨rfl,M⟩;obtain⟨a7,b8⟩:=gO (ar.bl M) ((M.heap aa).H b7);have x3:=(M.cell aa).H x2;have F:=al.H M;have a2:=af aa M.lt;by_cases c1:n-off rs k<rs[k].bytes.length
  .have a0:decide (((rs[k].bytes.length:Nat):Int)<=((n-off rs k:Nat):Int))=false:=ik;have au:Hid (n<off rs k+rs[k].bytes.length):=nC;rw[a0];generalize hM:rs[k].bytes.length=m at*;have HM:=gN hM;clear hM;go_wp2;go_ret2;exact⟨k,_,xs,rfl,hk,a6,λ_=>jf HM.o au,a7,F⟩
  have a0:decide (((rs[k].bytes.length:Nat):Int)<=((n-off rs k:Nat):Int))=true:=ik;rw[a0];have av:Hid (rs[k].bytes.length=(j5 rs[k].kd rs[k].ns rs[k].val).length):=rfl;have b9:Hid (∀j d,(j5 rs[k].kd rs[k].ns rs[k].val)[j]?=some d->w3.cell? (U b (o+off rs k+j))=some (B8 d)):=by intro j d hj;have bp:=(aj.1 hj).1;have ba:j<rs[k].bytes.length:=bp;have e:=Gr (n:=n) y j C;unfold left at e;rw[cZ,aE C,aB ba]at e;rw[F.cell hb,cG];exact Hc _ _ C (e.symm.H hj)
  obtain⟨a3,Ht,aw⟩:=iI (Ok _ (aL y)) (aM y) (FE rs k y);have c2:3<=rs[k].bytes.length:=by have:=rs[k].len;omega
  have c3:((rs[k].bytes.length:Nat):Int)<=((c-off rs k:Nat):Int):=C;have c4:((rs[k].bytes.length:Nat):Int)<=((n-off rs k:Nat):Int):=C;generalize bb:rs[k]=r at*;have c5:=gN bb;clear bb;generalize hM:r.bytes.length=m at*;have HM:=gN hM;clear hM a0 x2 aq ar b7 M aa;have aY:=gN (λ(bq:m<=c-off rs k)=>Pz b (o+off rs k) (c-off rs k) r.kd r.ns r.val w3 (af hb F.lt) b9 (j9 av.o bq) a3.k0 a3.k1 a3.n0 a3.n1 a3.v1 a3.wf C);rw[<-av.o]at aY;have bc:Hid ((rs.take k).length=k):=by unfold Hid;rw[bH];omega
  clear b9 av ap Y b6;go_wp2_with fail;refine(aY C).L ?_;rintro e w4⟨nv,vv,rfl,a4,a8,a9⟩;obtain⟨na,nc,en⟩:∃a c,nv=gK a r.ns.length c:=by obtain⟨a',c',e'⟩:=(jD a8).len;rw[jQ a8]at e';exact⟨a',c',e'⟩
  subst en;obtain⟨wa,wc,ew⟩:∃a c,vv=gK a r.val.length c:=by obtain⟨a',c',e'⟩:=(jD a9).len;rw[jQ a9]at e';exact⟨a',c',e'⟩
  subst ew;obtain⟨bd,be,b0,ab⟩:=kN (iE (base':=w.heap.size) a8 λb b1=>aF (eS a2) (a8.lt b b1).1) (iE (base':=w.heap.size) a9 λb b1=>aF (eS a2) (a9.lt b b1).1) (a7.bl a4) ((a4.heap a2).H b8);have x4:=(a4.cell a2).H x3;have am:=gN (F.H a4);have ac:=af a2 a4.lt;have bg:=aP w4 w.heap.size 0 _ 40 ab;have a1:Hid (w4.ownsRow w.heap.size 320 3 (gK va k vc) k xs):=by have:=b0.ij;rwa[bc.o]at this
  have b2:=gN (gW a1 ab bT);have bv:Hid ((k+1)*56<=140737488355328):=by have:=PX rs k hk;unfold Hid;omega
  have bw:Hid (k+1<=maxLen):=by have:=PX rs k hk;unfold Hid maxLen;omega
  clear a8 a9 a4 a7 b8 x3 F aY a2;go_wp2_with(at_builtin;refine fm _ rfl _ _ 316 rfl w.heap.size 320 bl _ 3 56 underlying316 ji bm bn bo rfl bT _ k xs rfl (a1.alloc _) (U w4.heap.size 0) 1 1 [I r.kd,gK na r.ns.length nc,gK wa r.val.length wc] rfl rfl (fW (cs:=#[I r.kd,gK na r.ns.length nc,gK wa r.val.length wc]) (t:=320) (fr:=(0,0)) (ao w4 _)) tx bT bw bv ik (w4.heap.size+1) bz ?_);intro g cap w5 an P bx bD;have x5:=(C4 ((Bl.refl w4).alloc _) P (o:=0) ac b2).1.H x4;have c6:=(C4 ((Bl.refl w4).alloc _) P (o:=0) ac b2).2.H bg;obtain⟨ag,bi⟩:=gO P an;clear an P bx x4 bg;have bA:Bl w4 (w4.alloc (ig #[I r.kd,gK na r.ns.length nc,gK wa r.val.length wc] 320)):=(Bl.refl w4).alloc _;have X5:Hid (w5.heap[w.heap.size]?=some (ig #[gK (some (U b (o+off rs k))) (n-off rs k) (c-off rs k)] 40 (0,0))):=by show _=_;rw[ag.block _ (af ac bA.lt) λe=>b2.o e.symm,bA.heap ac];exact ab
  have B5:=gN (((am.H bA).A (gI.A ag) λb e=>(a1.lt b e.symm).1));have R5:=gN ((b0.bl bA).push ((jY bA).jH bd λ_ _ e=>e) ((jY bA).jH be λ_ _ e=>e) ag (jf bc.o bi));rw[<-Ht.o]at R5;clear ag bi bA ab b0 bd be a1 am;go_wp2;refine⟨⟨k+1,xs++[I r.kd,gK na r.ns.length nc,gK wa r.val.length wc],if c-off rs k=m then some (U b (o+off rs k))else some (U b (o+off rs k+m)),G g,cap,rfl,C,qD aw.o,λh=>?_,?_,?_,?_⟩,by simp[lenOf];omega⟩
  .rw[aw.o]at h|-;rw[az C,cG];exact⟨rfl,hb⟩
  .rw[aw.o,<-fs,<-fs];exact fy w5 w.heap.size 0 _ 40 _ X5
  .exact ZY B5 jr _
  refine R5.only ((gI.refl (λb=>b=w.heap.size) w5).setCell _ (.inl rfl) _) λb _ e _=>?_;subst e;exact⟨_,_,_,X5,bT,bT,bT⟩
 have bB:∀h:k<rs.length,Hid (n<off rs k+rs[k].bytes.length):=λh=>by have:=rs[k].len;unfold Hid;omega
 have hz:n-off rs k=0:=C;rw[hz]at x0;clear mC;go_wp2;go_ret2;exact⟨k,_,xs,rfl,hk,a6,λh=>(bB h).o,HR,V⟩
end
section
def qc(n m)(w)(h:1<=n)(y:n<=m):Calls prog 145 #[I n,I m] w λe w'=>e=gU (.bool true)/\w'=w:=by
 go_wp2;go_ret;simp_all
theorem LS(n m)(w)(h:n<1\/m<n):Calls prog 145 #[I n,I m] w λe w'=>e=gU (.bool false)/\w'=w:=by
 by_cases y:1<=n
 .have A:decide (n<=m)=false:=ik;clear h;go_wp2;go_ret;exact⟨rfl,rfl⟩
 clear h;go_enter func145,ntmps145;go_wp2;go_ret;exact⟨rfl,rfl⟩
theorem Np(a b c d)(w)(h:1<=a)(y:a<=3)(A:1<=b)(F:b<=3)(H:1<=c)(M:c<=5)(Y:c%2=1)(P:1<=d)(V:d<=16):iU 80 #[.agg #[I a,I b,I c,I d]] w λe w'=>e=gU (.bool true)/\Bl w w':=by
 go_enter func80,ntmps80;go_wp2_with fail;refine(qc a 3 _ h y).L ?_;rintro e w'⟨rfl,rfl⟩;go_wp2_with fail;refine(qc b 3 _ A F).L ?_;rintro e w'⟨rfl,rfl⟩;go_wp2_with fail;refine(qc c 5 _ H M).L ?_;rintro e w'⟨rfl,rfl⟩;go_wp2_with fail;refine(qc d 16 _ P V).L ?_;rintro e w'⟨rfl,rfl⟩;go_wp2;go_ret;exact⟨rfl,jZ.alloc _⟩
theorem Mx(a b c d)(w)(h:a<1\/3<a):iU 80 #[.agg #[I a,I b,I c,I d]] w λe w'=>e=gU (.bool false)/\Bl w w':=by
 go_enter func80,ntmps80;go_wp2_with fail;refine(LS a 3 _ h).L ?_;rintro e w'⟨rfl,rfl⟩;go_wp2;go_ret;exact⟨rfl,jZ.alloc _⟩
theorem MF(a b c d)(w)(y:1<=a)(A:a<=3)(h:b<1\/3<b):iU 80 #[.agg #[I a,I b,I c,I d]] w λe w'=>e=gU (.bool false)/\Bl w w':=by
 go_enter func80,ntmps80;go_wp2_with fail;refine(qc a 3 _ y A).L ?_;rintro e w'⟨rfl,rfl⟩;go_wp2_with fail;refine(LS b 3 _ h).L ?_;rintro e w'⟨rfl,rfl⟩;go_wp2;go_ret;exact⟨rfl,jZ.alloc _⟩
theorem Mg(a b c d)(w)(y:1<=a)(A:a<=3)(F:1<=b)(H:b<=3)(h:c<1\/5<c):iU 80 #[.agg #[I a,I b,I c,I d]] w λe w'=>e=gU (.bool false)/\Bl w w':=by
 go_enter func80,ntmps80;go_wp2_with fail;refine(qc a 3 _ y A).L ?_;rintro e w'⟨rfl,rfl⟩;go_wp2_with fail;refine(qc b 3 _ F H).L ?_;rintro e w'⟨rfl,rfl⟩;go_wp2_with fail;refine(LS c 5 _ h).L ?_;rintro e w'⟨rfl,rfl⟩;go_wp2;go_ret;exact⟨rfl,jZ.alloc _⟩
theorem MN(a b c d)(w)(y:1<=a)(A:a<=3)(F:1<=b)(H:b<=3)(M:1<=c)(P:c<=5)(h:¬c%2=1):iU 80 #[.agg #[I a,I b,I c,I d]] w λe w'=>e=gU (.bool false)/\Bl w w':=by
 have V:(c%2==1)=false:=ik;clear h;go_enter func80,ntmps80;go_wp2_with fail;refine(qc a 3 _ y A).L ?_;rintro e w'⟨rfl,rfl⟩;go_wp2_with fail;refine(qc b 3 _ F H).L ?_;rintro e w'⟨rfl,rfl⟩;go_wp2_with fail;refine(qc c 5 _ M P).L ?_;rintro e w'⟨rfl,rfl⟩;go_wp2;go_ret;exact⟨rfl,jZ.alloc _⟩
theorem MY(a b c d)(w)(y:1<=a)(A:a<=3)(F:1<=b)(H:b<=3)(M:1<=c)(P:c<=5)(V:c%2=1)(h:d<1\/16<d):iU 80 #[.agg #[I a,I b,I c,I d]] w λe w'=>e=gU (.bool false)/\Bl w w':=by
 go_enter func80,ntmps80;go_wp2_with fail;refine(qc a 3 _ y A).L ?_;rintro e w'⟨rfl,rfl⟩;go_wp2_with fail;refine(qc b 3 _ F H).L ?_;rintro e w'⟨rfl,rfl⟩;go_wp2_with fail;refine(qc c 5 _ M P).L ?_;rintro e w'⟨rfl,rfl⟩;go_wp2_with fail;refine(LS d 16 _ h).L ?_;rintro e w'⟨rfl,rfl⟩;go_wp2;go_ret;exact⟨rfl,jZ.alloc _⟩
def oE(a b c d:Int):Bool:=decide ((1<=a/\a<=3)/\(1<=b/\b<=3)/\(1<=c/\c<=5)/\c%2=1/\(1<=d/\d<=16))
def nU(a b c d)(w):iU 80 #[.agg #[I a,I b,I c,I d]] w λe w'=>e=gU (.bool (oE a b c d))/\Bl w w':=by
 by_cases h:1<=a/\a<=3
 .by_cases y:1<=b/\b<=3
  .by_cases A:1<=c/\c<=5
   .by_cases F:c%2=1
    .by_cases H:1<=d/\d<=16
     .rw[show oE a b c d=true from by simp[oE, *]];exact Np a b c d w h.1 h.2 y.1 y.2 A.1 A.2 F H.1 H.2
     rw[show oE a b c d=false from by simp[oE];omega];exact MY a b c d w h.1 h.2 y.1 y.2 A.1 A.2 F C
    rw[show oE a b c d=false from by simp[oE];omega];exact MN a b c d w h.1 h.2 y.1 y.2 A.1 A.2 F
   rw[show oE a b c d=false from by simp[oE];omega];exact Mg a b c d w h.1 h.2 y.1 y.2 C
  rw[show oE a b c d=false from by simp[oE];omega];exact MF a b c d w h.1 h.2 C
 rw[show oE a b c d=false from by simp[oE];omega];exact Mx a b c d w C
def rC(a b c d x:Int):Int×Int×Int:=
 if oE a b c d=true then(if x<0\/a*d<=x then(0,0,2)else(x%a,x/a,0))else(0,0,1)
def vE{a b c:Int}(h:oE a b c d=true):1<=a/\a<=3/\1<=d/\d<=16:=by simp[oE]at h;omega
def Ot(r:Int×Int×Int):Ending:=gU (.tuple #[I r.1,I r.2.1,I r.2.2])
def xR{a:Int}(h:1<=a)(y:a<=3)(A:1<=d)(F:d<=16):1<=a*d/\a*d<=48:=by have:=Int.mul_le_mul y F C C;have:=Int.mul_le_mul h A C C;omega
theorem mX(a b c d x)(w):iU 88 #[.agg #[I a,I b,I c,I d],I x] w λe w'=>e=Ot (rC a b c d x)/\Bl w w':=by
 cases y:oE a b c d
 .go_enter func88,ntmps88;go_wp2_with fail;refine gS (nU a b c d _) λw' h=>?_;go_wp2;go_ret3;exact⟨by simp[Ot,rC,y],(jZ.alloc _).H h⟩
 obtain⟨Y,Z,h3,h4⟩:=vE y;have hm:=xR Y Z h3 h4;by_cases P:x<0
 .have A:Hid (rC a b c d x=(0,0,2)):=by simp[Hid,rC,y,P]
  go_enter func88,ntmps88;go_wp2_with fail;refine gS (nU a b c d _) λw' h=>?_;have F:=(h.cell (b:=w.heap.size) (o:=0) bz);have L:=(h.cell (b:=w.heap.size) (o:=3) bz);go_wp2;go_ret3;exact⟨by rw[A.o];rfl,(jZ.alloc _).H h⟩
 by_cases M:a*d<=x
 .have A:Hid (rC a b c d x=(0,0,2)):=by simp[Hid,rC,y,M]
  go_enter func88,ntmps88;go_wp2_with fail;refine gS (nU a b c d _) λw' h=>?_;have F:=(h.cell (b:=w.heap.size) (o:=0) bz);have L:=(h.cell (b:=w.heap.size) (o:=3) bz);go_wp2;go_ret3;exact⟨by rw[A.o];rfl,(jZ.alloc _).H h⟩
 have A:Hid (rC a b c d x=(x%a,x/a,0)):=by simp[Hid,rC,y,M,P]
 have a0:0<=x:=C;have a1:x<48:=C;have V:decide (a*d<=x)=false:=je M;have a2:(a==0)=false:=ik;go_enter func88,ntmps88;go_wp2_with fail;refine gS (nU a b c d _) λw' h=>?_;have F:=(h.cell (b:=w.heap.size) (o:=0) bz);have L:=(h.cell (b:=w.heap.size) (o:=3) bz);go_wp2;go_quiet(fail);go_wp2;go_ret3;exact⟨by rw[A.o];rfl,((jZ.alloc _).H h).drewN _⟩
def KU{a b c:Int}(h:oE a b c d=true):1<=b/\b<=3:=by simp[oE]at h;omega
def GF(a b c d u:Int):Int×Int:=
 if oE a b c d=true then(if u<0\/a*b<=u then(0,1)else(u/b,0))else(0,1)
def OR(r:Int×Int):Ending:=gU (.tuple #[I r.1,I r.2])
theorem uK(a b c d u)(w):iU 90 #[.agg #[I a,I b,I c,I d],I u] w λe w'=>e=OR (GF a b c d u)/\Bl w w':=by
 cases y:oE a b c d
 .go_enter func90,ntmps90;go_wp2_with fail;refine gS (nU a b c d _) λw' h=>?_;go_wp2;go_ret2;exact⟨by simp[OR,GF,y],(jZ.alloc _).H h⟩
 obtain⟨Y,Z,_,_⟩:=vE y;obtain⟨h3,h4⟩:=KU y;have hm:=xR Y Z h3 C;by_cases P:u<0
 .have A:Hid (GF a b c d u=(0,1)):=by simp[Hid,GF,y,P]
  go_enter func90,ntmps90;go_wp2_with fail;refine gS (nU a b c d _) λw' h=>?_;have F:=(h.cell (b:=w.heap.size) (o:=0) bz);have L:=(h.cell (b:=w.heap.size) (o:=1) bz);go_wp2;go_ret2;exact⟨by rw[A.o];rfl,(jZ.alloc _).H h⟩
 by_cases M:a*b<=u
 .have A:Hid (GF a b c d u=(0,1)):=by simp[Hid,GF,y,M]
  go_enter func90,ntmps90;go_wp2_with fail;refine gS (nU a b c d _) λw' h=>?_;have F:=(h.cell (b:=w.heap.size) (o:=0) bz);have L:=(h.cell (b:=w.heap.size) (o:=1) bz);go_wp2;go_ret2;exact⟨by rw[A.o];rfl,(jZ.alloc _).H h⟩
 have A:Hid (GF a b c d u=(u/b,0)):=by simp[Hid,GF,y,M,P]
 have a0:0<=u:=C;have a1:u<48:=C;have V:decide (a*b<=u)=false:=je M;have a2:(b==0)=false:=ik;go_enter func90,ntmps90;go_wp2_with fail;refine gS (nU a b c d _) λw' h=>?_;have F:=(h.cell (b:=w.heap.size) (o:=0) bz);have L:=(h.cell (b:=w.heap.size) (o:=1) bz);go_wp2;go_ret2;exact⟨by rw[A.o];rfl,(jZ.alloc _).H h⟩
open Go.RowKit
attribute [local go_sem ↓] Go.wp_at_zero Go.wp_at_succ
def oX:List (Int×Int×Int):=[(1,1,0),(2,2,0),(3,5,8)]
def tE(kd:Int)(n:Nat):Bool:=if kd=8 then decide (1<=n/\n<=8)else if kd=9 then decide (n=0)else false
theorem vq(kd cl ca)(a)(n c)(w)(L:n<=1100000000000):iU 225 #[.agg #[I kd,I cl,I ca,gK a n c]] w λe w'=>e=gU (.bool (tE kd n))/\Bl w w':=by
 by_cases h:kd=8
 .subst h;by_cases M:1<=n
  .by_cases P:n<=8;all_goals
    have F:Hid (tE 8 n=decide (n<=8)):=by simp[Hid,tE];omega
    go_enter func225,ntmps225;go_wp2;go_ret;exact⟨mn (by rw[F.o];simp;try omega),jZ.alloc _⟩
  have F:Hid (tE 8 n=false):=by simp[Hid,tE];omega
  have A:n=0:=C;subst A;go_enter func225,ntmps225;go_wp2;go_ret;exact⟨mn (mT F.o),jZ.alloc _⟩
 by_cases y:kd=9
 .subst y;clear h;by_cases H:n=0
  .subst H;go_enter func225,ntmps225;go_wp2;go_ret;exact⟨mn rfl,jZ.alloc _⟩
  have F:Hid (tE 9 n=false):=by simp[Hid,tE,H]
  have V:((n:Int)==0)=false:=je H;go_enter func225,ntmps225;go_wp2;go_ret;exact⟨mn (mT F.o),jZ.alloc _⟩
 have F:Hid (tE kd n=false):=by simp[Hid,tE,h,y]
 have Y:(kd==8)=false:=je h;have Z:(kd==9)=false:=je y;clear h y;go_enter func225,ntmps225;go_wp2;go_ret;exact⟨mn F.symm,jZ.alloc _⟩
theorem Ba(kd cl ca)(v)(ys:List Int)(w)(hv:Bs w v (ys.map B8))(hl:ys.length<=1100000000000):iU 258 #[.agg #[I kd,I cl,I ca,v]] w λe w'=>∃v',e=gU (.agg #[I kd,I cl,I ca,v'])/\Bl w w'/\w'.ownsRow w.heap.size 5 1 v' ys.length (ys.map B8):=by
 obtain⟨a,c,e⟩:=hv.len;rw[ay]at e;subst e;have Hv:=gN hv;clear hv;go_enter func258,ntmps258;have bW:Bl w ((w.alloc (ig #[I kd,I cl,I ca,gK a ys.length c] 91)).alloc (ig #[I 0,I 0,I 0,OO] 91)):=((Bl.refl w).alloc _).alloc _;have hA:=(fJ (w.alloc (ig #[I kd,I cl,I ca,gK a ys.length c] 91)) (ig #[I 0,I 0,I 0,OO] 91) w.heap.size bz).H (ao w _);have hB:((w.alloc (ig #[I kd,I cl,I ca,gK a ys.length c] 91)).alloc (ig #[I 0,I 0,I 0,OO] 91)).heap[w.heap.size+1]?=some (ig #[I 0,I 0,I 0,OO] 91 (0,0)):=by have:=ao (w.alloc (ig #[I kd,I cl,I ca,gK a ys.length c] 91)) (ig #[I 0,I 0,I 0,OO] 91);simpa using this
 obtain⟨Z,HA,HB⟩:=iI bW hA hB;clear bW hA hB;go_wp2_with fail;refine(pA _ ys _ (Hv.bl Z) hl).L ?_;rintro e w2⟨vv,rfl,b2,y⟩;obtain⟨va,vc,ev⟩:∃a c,vv=gK a ys.length c:=by obtain⟨a',c',e'⟩:=(jD y).len;rw[jQ y]at e';exact⟨a',c',e'⟩
 subst ev;have lB:=(ae.1 HB).1;obtain⟨M,P,V,Y⟩:=kN ((b2.heap (eR (fo _) lB)).H HA) ((b2.heap lB).H HB) y (Z.H b2);have a4:=Z.lt;obtain⟨a0,a1,a2,a3⟩:=pD M 0 1 2 3 rfl;have f3:=aP w2 w.heap.size 3 _ 91 M;obtain⟨p0,p1,p2,p3⟩:=pD P 0 1 2 3 rfl;obtain⟨g0,g1,g2,g3⟩:=yM P 0 1 2 3;simp at a0 a1 a2 a3 p0 p1 p2 p3;clear y b2 Z HA HB lB;go_wp2;have F:gI (λb=>b=w.heap.size\/b=w.heap.size+1) w2 _:=(((((gI.refl (λb=>b=w.heap.size\/b=w.heap.size+1) w2).setCell (U w.heap.size 3) (.inl (.inl rfl)) (gK va ys.length vc)).setCell (U (w.heap.size+1) 0) (.inl (.inr rfl)) (I kd)).setCell (U (w.heap.size+1) 1) (.inl (.inr rfl)) (I cl)).setCell (U (w.heap.size+1) 2) (.inl (.inr rfl)) (I ca)).setCell (U (w.heap.size+1) 3) (.inl (.inr rfl)) (gK va ys.length vc);refine aG (v:= .agg #[I kd,I cl,I ca,gK va ys.length vc]) (by simp[results,results258,go_sem,p0,p1,p2,p3]) rfl ⟨_,rfl,?_,?_⟩
 .exact Y.A F (λn hn=>by obtain h|h:=hn<;>omega)
 have this:=iE (base':=w.heap.size) V λb A=>aF a4 (V.lt b A).1;refine F.jH this λb A e=>?_;obtain e|e:=e
 .exact gW this M bT (kz A e)
 exact gW this P bT (kz A e)
end
section
def At(w:World)(p:Nat)(K:Nat->Value):Prop:=
 ∃arr t,w.heap[p]?=some (.cells arr t (0,0))/\(t=248\/t=250)/\∀i,i<72->arr[i]?=some (K i)
def vX(K:Nat->Value)(i:Nat)(u:Value):Nat->Value:=λj=>if j=i then u else K j
def nP(K)(i)(u):vX K i u i=u:=by simp[vX]
def jF(K)(i j)(u)(h:j≠i):vX K i u j=K j:=by simp[vX,h]
def At.lt{p:Nat}(h:At w p K):p<w.heap.size:=by obtain⟨y,t,A,_⟩:=h;exact(ae.1 A).1
def At.cell{p:Nat}(h:At w p K)(i)(y:i<72):w.cell? (U p i)=some (K i):=by obtain⟨A,t,F,_,H⟩:=h;rw[ax w p i _ t _ F];exact H i y
def At.frozen{p:Nat}(h:At w p K)(i):w.frozen? (U p i)=false:=by obtain⟨y,t,A,_,F⟩:=h;exact aP w p i _ t A
def At.pF{p:Nat}(h:At w p K)(e:w'.heap[p]?=w.heap[p]?):At w' p K:=by obtain⟨y,t,A,r⟩:=h;exact⟨y,t,e.H A,r⟩
def At.only{p:Nat}(h:At w p K)(y:gI S w w')(A:¬S p):At w' p K:=h.pF (y.block p h.lt A)
def At.bl{p:Nat}(h:At w p K)(y:Bl w w'):At w' p K:=h.pF (y.heap h.lt)
def At.set{p:Nat}(h:At w p K)(i)(u):At (w.setCell (U p i) u) p (vX K i u):=by
 obtain⟨F,t,H,L,y⟩:=h;refine⟨_,t,cH w p i _ t u H,L,λj A=>?_⟩;unfold vX;rw[fD];have M:=(ae.1 (y j A)).1;by_cases e:i=j
 .simp_all
 rw[az e,az (Ne.symm e)];exact y j A
def At.qC{p:Nat}(h:At w p K){base:Nat}{size:Nat}(y:w.ownsRow base e size v n xs)(L:e≠248/\e≠250):v.ownBlock≠some p:=by obtain⟨A,t,F,H,_⟩:=h;refine gW y F ?_;obtain rfl|rfl:=H;all_goals simp_all
def lC(wh ep mk kd cl ca:Int)(v:Value):Value:= .agg #[I wh,I ep,I mk,I kd,I cl,I ca,v]
theorem vM(p)(K)(ep)(w)(h:At w p K)(y:K 5=I ep):iU 222 #[O p] w λe w'=>e=gU (lC 5 ep 0 0 0 0 OO)/\Bl w w':=by
 have F:=h.lt;have A:=h.cell 5 bT;rw[y]at A;clear h y;go_enter func222,ntmps222;go_wp2;exact aG (by simp[results,results222,go_sem,lC]) rfl ⟨rfl,jZ.alloc _⟩
structure CD(base:Nat)(w w':World)(p:Nat)(K:Nat->Value)(v v':Value)(n:Nat)(xs:List Value):Prop where
 kY:At w' p (vX K 71 v')
 ij:w'.ownsRow base 5 1 v' n xs
 only:gI (λb=>b=p\/v.ownBlock=some b) w w'
 d:∀b,v'.ownBlock=some b->v.ownBlock=some b\/w.heap.size<=b
def CD.of{base:Nat}{p:Nat}(A:Bl w W)(h:At w' p K)(y:qi base 5 W w' v v' n xs):CD base w (w'.setCell (U p 71) v') p K v v' n xs where
 kY:=h.set 71 v'
 ij:=((gI.refl (λb=>b=p) w').setCell (U p 71) (.inl rfl) v').jH y.ij λb e e'=>h.qC y.ij bT (kz e e')
 only:=((gI.D A).H (y.only.L λb _ e=>.inr e)).setCell (U p 71) (.inl (.inl rfl)) v'
 d:=λb e=>(y.d b e).imp id λh=>aF A.lt h
structure Kept(base:Nat)(w w':World)(p o:Nat)(v v':Value)(n:Nat)(xs:List Value):Prop where
 ex:∃W w1,Bl w W/\qi base 5 W w1 v v' n xs/\w'=w1.setCell (U p o) v'
theorem Ar(base p o)(arr)(t)(v)(k)(xs)(kd)(nv vv)(ns val)(w)(h:w.heap[p]?=some (ig arr t (0,0)))(hi:arr[o]?=some v)(ht:5≠t)(M:w.ownsRow base 5 1 v k xs)(hb:base<=w.heap.size)(hk:k<=1000000000000)(F:Bs w nv (ns.map I))(y:Bs w vv (val.map B8))(h0:0<=kd)(h1:kd<=255)(a4:ns.length<=255)(a5:val.length<=255)(V:∀b,v.ownBlock=some b->nv.ownBlock≠some b)(Y:∀b,v.ownBlock=some b->vv.ownBlock≠some b)(Z:∀b,nv.ownBlock=some b->b<w.heap.size)(a0:∀b,vv.ownBlock=some b->b<w.heap.size):iU 257 #[.pointer (some (U p o)),.agg #[I kd,nv,vv]] w λe w'=>∃v',e=iF/\Kept base w w' p o v v' (k+(j5 kd ns val).length) (xs++(j5 kd ns val).map B8):=by
 have hp:p<w.heap.size:=(ae.1 h).1;have a7:w.cell? (U p o)=some v:=by rw[ax w p o _ t (0,0) h];exact hi
 have a8:w.frozen? (U p o)=false:=aP w p o _ t h;have H:=gN h;obtain⟨na,nc,en⟩:=F.len;obtain⟨va,vc,ev⟩:=y.len;simp only[ay]at en ev;subst en ev;obtain⟨ia,ic,ei⟩:∃a c,v=gK a k c:=by obtain⟨a',c',e'⟩:=(jD M).len;rw[jQ M]at e';exact⟨a',c',e'⟩
 have Hi:=gN hi;clear hi;subst ei;have a6:=gN (gW M h ht);have HB:Hid (∀W w' v' n' a1,Bl (w.alloc (BV kd na ns nc va val vc)) W->qi base 5 W w' (gK ia k ic) v' n' a1->w'.cell? (U p o)=some (gK ia k ic)/\w'.frozen? (U p o)=false):=by intro W w' v' n' a1 A P;have a2:=((Bl.refl w).alloc (BV kd na ns nc va val vc)).H A;have a3:=(P.only.block p (af hp a2.lt) a6).H ((a2.heap hp).H h);exact⟨by rw[ax w' p o _ t (0,0) a3];exact Hi,aP w' p o _ t a3⟩
 clear h;have lA:(w.alloc (BV kd na ns nc va val vc)).heap.size=w.heap.size+1:=bz;have Hr:Hid (∀W,Bl (w.alloc (BV kd na ns nc va val vc)) W->_):=λW A=>oU base (gK ia k ic) k xs kd (mP na ns nc) (mP va val vc) ns val W ((jY A).jH (M.alloc _) λ_ _ e=>e) (gM A.lt) hk (F.bl ((jZ.alloc _).H A)) (y.bl ((jZ.alloc _).H A)) h0 h1 a4 a5 V Y (λb e=>by have:=Z b e;have:=A.lt;omega) (λb e=>by have:=a0 b e;have:=A.lt;omega);have Hv:=gN M;clear M F y V Y Z a0;go_enter func257,ntmps257;go_wp2;go_region_with(go_at_call 234;refine(Hr _ (by exact jZ.drewN _)).L ?_;rintro e w'⟨v',rfl,P⟩;obtain⟨a',c',e'⟩:=P.D;subst e';obtain⟨c1,f1⟩:=HB _ _ _ _ _ (by exact jZ.drewN _) P;have HG:=gN P;clear P);all_goals
  go_end0;exact⟨_,rfl,⟨_,_,(jZ.alloc _).drew,HG,rfl⟩⟩
def Ij(base p)(K)(v)(k)(xs)(kd)(nv vv)(ns val)(w)(h:At w p K)(hi:K 71=v)(hv:w.ownsRow base 5 1 v k xs)(hb:base<=w.heap.size)(hk:k<=1000000000000)(A:Bs w nv (ns.map I))(y:Bs w vv (val.map B8))(h0:0<=kd)(h1:kd<=255)(F:ns.length<=255)(H:val.length<=255)(M:∀b,v.ownBlock=some b->nv.ownBlock≠some b)(P:∀b,v.ownBlock=some b->vv.ownBlock≠some b)(V:∀b,nv.ownBlock=some b->b<w.heap.size)(Y:∀b,vv.ownBlock=some b->b<w.heap.size):iU 257 #[.pointer (some (U p 71)),.agg #[I kd,nv,vv]] w λe w'=>∃v',e=iF/\CD base w w' p K v v' (k+(j5 kd ns val).length) (xs++(j5 kd ns val).map B8):=by
 obtain⟨Z,t,hh,ht,hc⟩:=id h;refine(Ar base p 71 Z t v k xs kd nv vv ns val w hh (by rw[hc 71 bT,hi]) (by obtain rfl|rfl:=ht<;>decide) hv hb hk A y h0 h1 F H M P V Y).L ?_;rintro e w'⟨v',rfl,⟨W,w1,hW,hG,rfl⟩⟩;exact⟨v',rfl,CD.of hW ((h.bl hW).only hG.only (h.qC hv bT)) hG⟩
open Go.RowKit
attribute [local go_sem ↓] Go.wp_at_zero Go.wp_at_succ
structure Ct where
 kd:Int
 cl:Int
 ca:Int
 val:List Int
structure Ks(base:Nat)(w:World)(p:Nat)(a b c d ch ep mk:Int)(ct:Nat->Ct)(img:List Int)(K:Nat->Value):Prop where
 kY:At w p K
 k0:K 0=I a
 k1:K 1=I b
 k2:K 2=I c
 k3:K 3=I d
 k4:K 4=I ch
 k5:K 5=I ep
 k6:K 6=I mk
 ij:w.ownsRow base 5 1 (K 71) img.length (img.map B8)
 kd:∀i,i<16->K (7+4*i)=I (ct i).kd
 cl:∀i,i<16->K (8+4*i)=I (ct i).cl
 ca:∀i,i<16->K (9+4*i)=I (ct i).ca
 val:∀i,i<16->w.ownsRow base 5 1 (K (10+4*i)) (ct i).val.length ((ct i).val.map B8)
 ny:∀i,i<16->∀g,(K (10+4*i)).ownBlock=some g->(K 71).ownBlock≠some g
def KF(K:Nat->Value)(g:Nat):Prop:=(K 71).ownBlock=some g\/∃i,i<16/\(K (10+4*i)).ownBlock=some g
structure Gk(p:Nat)(K K':Nat->Value)(w w':World):Prop where
 only:gI (λb=>b=p\/(K 71).ownBlock=some b) w w'
 d:∀g,KF K' g->KF K g\/w.heap.size<=g
def Gk.refl(p)(K)(w):Gk p K K w w:=⟨vO,λ_ h=>.inl h⟩
def Gk.D{p:Nat}(h:Bl w w'):Gk p K K w w':=⟨gI.D h,λ_ h=>.inl h⟩
def Gk.M{p:Nat}(h:Gk p K K' W w')(y:Bl w W):Gk p K K' w w':=⟨(gI.D y).H h.only,λg A=>(h.d g A).imp id (aF y.lt)⟩
def Gk.post{p:Nat}(h:Gk p K K' w w1)(y:Bl w1 w'):Gk p K K' w w':=⟨h.only.H (gI.D y),h.d⟩
def Gk.new{p:Nat}(h:Gk p K K' w w1)(k:gI T w1 w')(A:∀n,T n->w.heap.size<=n):Gk p K K' w w':=
 ⟨⟨k.os.H h.only.os,k.tape.H h.only.tape,k.output.H h.only.output,aF h.only.size k.size,λi y F=>by rw[k.block i (af y h.only.size) λe=>by have:=A i e;omega,h.only.block i y F]⟩,h.d⟩
def Ks.PM{base:Nat}{p:Nat}{a b c:Int}{ct:Nat->Ct}{A:List Int}(h:Ks base w p a b c d ch ep mk ct A K)(y:KF K g):base<=g/\g<w.heap.size:=by
 obtain y|⟨i,F,y⟩:=y
 .exact h.ij.lt g y
 exact(h.val i F).lt g y
def Ks.nB{base:Nat}{p:Nat}{a b c ep' mk':Int}{ct:Nat->Ct}{F rec:List Int}(h:Ks base w p a b c d ch ep mk ct F K)(P:gI (λb=>b=p) w W)(Y:K' 5=I ep')(Z:K' 6=I mk')(ho:∀j,j≠5->j≠6->K' j=K j)(M:CD base W w' p K' (K 71) v' n xs)(hn:n=F.length+rec.length)(hx:xs=F.map B8++rec.map B8):Ks base w' p a b c d ch ep' mk' ct (F++rec) (vX K' 71 v')/\Gk p K (vX K' 71 v') w w':=by
 have V:=(P.L (T:=λb=>b=p\/(K 71).ownBlock=some b) λb _ e=>.inl e).H M.only;have L:∀j,j≠71->j≠5->j≠6->vX K' 71 v' j=K j:=λj h1 h2 h3=>by rw[jF _ _ _ _ h1,ho j h2 h3]
 have q:∀i,i<16->vX K' 71 v' (10+4*i)=K (10+4*i):=λi y=>L _ C C C;refine⟨⟨M.kY,by rw[L 0 bT bT bT];exact h.k0,by rw[L 1 bT bT bT];exact h.k1,by rw[L 2 bT bT bT];exact h.k2,by rw[L 3 bT bT bT];exact h.k3,by rw[L 4 bT bT bT];exact h.k4,by rw[jF _ _ _ _ bT];exact Y,by rw[jF _ _ _ _ bT];exact Z,?_,λi y=>by rw[L _ C C C];exact h.kd i y,λi y=>by rw[L _ C C C];exact h.cl i y,λi y=>by rw[L _ C C C];exact h.ca i y,λi y=>?_,λi y g A=>?_⟩,V,λg A=>?_⟩
 .rw[nP,aO,aZ,<-hx,<-hn];exact M.ij
 .rw[q i y];refine V.jH (h.val i y) λg A e=>?_;obtain e|e:=e
  .exact h.kY.qC (h.val i y) bT (kz A e)
  exact h.ny i y g A e
 .rw[q i y]at A;rw[nP];intro e;obtain e|e:=M.d g e
  .exact h.ny i y g A e
  have:=P.size;have:=((h.val i y).lt g A).2;omega
 obtain A|⟨i,y,A⟩:=A
 .rw[nP]at A;obtain e|e:=M.d g A
  .exact .inl (.inl e)
  exact .inr (aF P.size e)
 rw[q i y]at A;exact .inl (.inr ⟨i,y,A⟩)
theorem xy(base p)(a b c d ch ep mk)(ct)(img)(K)(ep')(w)(h:Ks base w p a b c d ch ep mk ct img K)(hb:base<=w.heap.size)(Z:img.length<=1000000000000):iU 223 #[O p,I ep'] w λe w'=>∃K',e=iF/\Ks base w' p a b c d ch ep' mk ct (img++if ep'=ep then []else j5 1 [ep'] []) K'/\Gk p K K' w w'/\(ep'=ep->K'=K/\Bl w w'):=by
 have H:=gN h;have hp:=h.kY.lt;have c5:=h.kY.cell 5 bT;have f5:=h.kY.frozen 5;rw[h.k5]at c5;by_cases y:ep'=ep
 .subst y;rw[aE rfl,cF];clear h;go_enter func223,ntmps223;go_wp2;exact aG (v:= .tuple #[]) (results_none rfl _ _ _) rfl ⟨K,rfl,H,Gk.refl _ _ _,λ_=>⟨rfl,jZ⟩⟩
 rw[az y];have A:=gN y;have hz:(ep'==ep)=false:=je y;clear h y;go_enter func223,ntmps223;go_wp2_with fail;have F:gI (λb=>b=p) w ((w.setCell (U p 5) (I ep')).alloc (ig #[I ep'] 3)):=((gI.refl (λb=>b=p) w).setCell (U p 5) (.inl rfl) (I ep')).alloc _;have M:=(H.kY.set 5 (I ep')).bl (jZ.alloc (ig #[I ep'] 3));have P:=F.jH H.ij λg e e'=>H.kY.qC H.ij bT (kz e e');have V:Bs ((w.setCell (U p 5) (I ep')).alloc (ig #[I ep'] 3)) (gK (G w.heap.size) 1 1) ([ep'].map I):=by have:=AO (w.setCell (U p 5) (I ep')) 3 #[I ep'] 1 rfl;simpa using this
 have lW:((w.setCell (U p 5) (I ep')).alloc (ig #[I ep'] 3)).heap.size=w.heap.size+1:=bz;refine(Ij base p (vX K 5 (I ep')) (K 71) img.length (img.map B8) 1 _ _ [ep'] [] _ M (jF _ _ _ _ bT) P C Z V (.inl ⟨rfl,rfl⟩) bT bT bz bz (λg e e'=>?_) (λg e e'=>pV e') (λg e=>by simp[Value.ownBlock]at e;omega) λg e=>pV e).L ?_
 .simp[Value.ownBlock]at e';have:=(H.ij.lt g e).2;omega
 rintro e w'⟨v',rfl,Y⟩;have R:=gN (H.nB (ep':=ep') (mk':=mk) F (nP _ _ _) ((jF _ _ _ _ bT).H H.k6) (λj h1 _=>jF _ _ _ _ h1) Y rfl rfl);clear F M P V lW Y;go_wp2;go_end0;exact⟨_,rfl,R.1,R.2,λe=>absurd e A⟩
end
section
def mw(a b c d ch mk:Int)(ct:Nat->Ct)(x:Int):Int×Int×Ct:=
 if(rC a b c d x).2.2≠0\/(rC a b c d x).1≠ch then(6,0,⟨0,0,0,[]⟩)
 else if x<mk then(4,mk,{ct (rC a b c d x).2.1.toNat with val:=[]})
 else if(ct (rC a b c d x).2.1.toNat).kd=0 then(3,0,⟨0,0,0,[]⟩)
 else(2,0,ct (rC a b c d x).2.1.toNat)
def Aw{a b c x:Int}(h:(rC a b c d x).2.2=0):∃i:Nat,i<16/\rC a b c d x=((rC a b c d x).1,(i:Int),0):=by
 unfold rC at h|-;by_cases y:oE a b c d=true
 .rw[aE y]at h|-;by_cases F:x<0\/a*d<=x
  .rw[aE F]at h;simp at h
  rw[az F];obtain⟨L,M,P,H⟩:=vE y;have V:x/a<16:=by refine gp C ?_;have:=Int.mul_le_mul_of_nonneg_left H (show 0<=a by omega);omega
  have A:0<=x/a:=fC C C;refine⟨(x/a).toNat,C,?_⟩;rw[gE A]
 rw[az y]at h;simp at h
def oL:Array Value:=#[I 0,I 0,I 0,I 0,I 0,I 0,OO]
def mH(h:w.heap[g]?=some (ig oL 215 (0,0))):w.cell? (U g 0)=some (I 0)/\w.cell? (U g 1)=some (I 0)/\w.cell? (U g 2)=some (I 0)/\w.cell? (U g 3)=some (I 0)/\w.cell? (U g 4)=some (I 0)/\w.cell? (U g 5)=some (I 0)/\w.cell? (U g 6)=some OO/\w.frozen? (U g 0)=false/\w.frozen? (U g 1)=false/\w.frozen? (U g 2)=false/\w.frozen? (U g 3)=false/\w.frozen? (U g 4)=false/\w.frozen? (U g 5)=false/\w.frozen? (U g 6)=false:=by
 refine⟨?_,?_,?_,?_,?_,?_,?_,?_,?_,?_,?_,?_,?_,?_⟩;all_goals first|exact aP w g _ _ 215 h|(rw[ax w g _ _ 215 _ h];rfl)
def gI.zf(h:S g)(u0 u1 u2 u3 u4 u5 u6):gI S w (((((((w.setCell (U g 0) u0).setCell (U g 1) u1).setCell (U g 2) u2).setCell (U g 3) u3).setCell (U g 4) u4).setCell (U g 5) u5).setCell (U g 6) u6):=
 (((((((gI.refl S w).setCell (U g 0) (.inl h) u0).setCell (U g 1) (.inl h) u1).setCell (U g 2) (.inl h) u2).setCell (U g 3) (.inl h) u3).setCell (U g 4) (.inl h) u4).setCell (U g 5) (.inl h) u5).setCell (U g 6) (.inl h) u6
theorem zQ(base p)(a b c d ch ep mk)(ct)(img)(K)(x)(w)(h:Ks base w p a b c d ch ep mk ct img K)(hl:∀i,i<16->(ct i).val.length<=255):iU 224 #[O p,I x] w λe w'=>∃v',e=gU (lC (mw a b c d ch mk ct x).1 0 (mw a b c d ch mk ct x).2.1 (mw a b c d ch mk ct x).2.2.kd (mw a b c d ch mk ct x).2.2.cl (mw a b c d ch mk ct x).2.2.ca v')/\w'.ownsRow w.heap.size 5 1 v' (mw a b c d ch mk ct x).2.2.val.length ((mw a b c d ch mk ct x).2.2.val.map B8)/\Bl w w':=by
 obtain⟨H,Hl⟩:=gO h hl;have Y:=h.kY.lt;have c0:=h.kY.cell 0 bT;have c1:=h.kY.cell 1 bT;have c2:=h.kY.cell 2 bT;have c3:=h.kY.cell 3 bT;have Z:=h.kY.cell 4 bT;have c6:=h.kY.cell 6 bT;rw[h.k0]at c0;rw[h.k1]at c1;rw[h.k2]at c2;rw[h.k3]at c3;rw[h.k4]at Z;rw[h.k6]at c6;clear h hl;by_cases M:(rC a b c d x).2.2≠0\/(rC a b c d x).1≠ch
 .have F:Hid (mw a b c d ch mk ct x=(6,0,⟨0,0,0,[]⟩)):=by unfold Hid mw;rw[aE M]
  rw[F.o];have a0:Hid (((rC a b c d x).2.2==0)=false\/((rC a b c d x).2.2==0)=true/\((rC a b c d x).1==ch)=false):=by
   unfold Hid;by_cases h0:(rC a b c d x).2.2=0
   .right;simp[h0];obtain h|h:=M
    .exact absurd h0 h
    exact h
   left;simpa using h0
  clear M;go_enter func224,ntmps224;go_wp2_with fail;refine(mX a b c d x _).L ?_;unfold Ot;generalize rC a b c d x=l at*;obtain⟨l1,l2,l3⟩:=l;rintro e w'⟨rfl,y⟩;simp only at a0|-;have d4:=(y.cell (b:=p) (o:=4) ik).H ((((Bl.refl w).alloc _).cell Y).H Z);obtain⟨n0,n1,n2,n3,n4,n5,n6,f0,f1,f2,f3,f4,f5,f6⟩:=mH ((y.heap bz).H (ao w (ig oL 215)));have P:=gN (((Bl.refl w).alloc _).H y);clear y c0 c1 c2 c3 Z c6;obtain hz|⟨hz,hy⟩:=a0.o;all_goals
   clear a0;go_wp2
  all_goals
   exact aG (v:=lC 6 0 0 0 0 0 OO) (by simp[results,results224,go_sem,lC,n0,n1,n2,n3,n4,n5,n6]) rfl ⟨_,rfl,m7,P.A (gI.zf (S:=λb=>b=w.heap.size) rfl _ _ _ _ _ _ _) λn e=>cY e.symm⟩
 have h0:(rC a b c d x).2.2=0:=by
  obtain h|h:=Int.decEq (rC a b c d x).2.2 0
  .exact absurd (.inl h) M
  exact h
 have a2:(rC a b c d x).1=ch:=by
  obtain h|h:=Int.decEq (rC a b c d x).1 ch
  .exact absurd (.inr h) M
  exact h
 obtain⟨i,hi,A⟩:=Aw h0;rw[a2]at A;have F:Hid (mw a b c d ch mk ct x=if x<mk then(4,mk,{ct i with val:=[]})else if(ct i).kd=0 then(3,0,⟨0,0,0,[]⟩)else(2,0,ct i)):=by unfold Hid mw;rw[az M,A];simp
 have q0:=(H.kY.cell (7+4*i) C).H (Z5 some (H.kd i hi));have q1:=(H.kY.cell (8+4*i) C).H (Z5 some (H.cl i hi));have q2:=(H.kY.cell (9+4*i) C).H (Z5 some (H.ca i hi));have q3:=H.kY.cell (10+4*i) C;rw[show 7+4*i=7+i*4 by omega]at q0;rw[show 8+4*i=7+i*4+1 by omega]at q1;rw[show 9+4*i=7+i*4+2 by omega]at q2;have a3:10+4*i=7+i*4+3:=C;have Hv:=gN (tr (H.val i hi));obtain⟨va,vc,ev⟩:=Hv.len;rw[ay]at ev;rw[ev]at q3 Hv;rw[a3]at q3;have a4:=gN (Hl i hi);clear M h0 a2 ev a3;rw[F.o];clear F;generalize ct i=t at*;obtain⟨tk,tl,ta,tv⟩:=t;simp only at a4 Hv q0 q1 q2 q3|-;by_cases hx:x<mk
 .rw[aE hx];simp only;go_enter func224,ntmps224;go_wp2_with fail;refine(mX a b c d x _).L ?_;rw[A];unfold Ot;rintro e w'⟨rfl,y⟩;have P:=gN (((Bl.refl w).alloc _).H y);obtain⟨d4,d6,r0⟩:=P.M Y Z c6 q0;obtain⟨r1,r2,r3⟩:=P.M Y q1 q2 q3;have HN:=gN ((y.heap bz).H (ao w (ig oL 215)));have lN:w.heap.size<w'.heap.size:=(ae.1 HN).1;have lP:p<w'.heap.size:=eR Y lN;clear y c0 c1 c2 c3 Z c6 q0 q1 q2 q3 A;have a5:(i:Int)<16:=C;obtain⟨n0,n1,n2,n3,n4,n5,n6,f0,f1,f2,f3,f4,f5,f6⟩:=mH HN;go_wp2;go_region;all_goals
   go_wp2
  all_goals
   exact aG (v:=lC 4 0 mk tk tl ta OO) (by simp[results,results224,go_sem,lC,n0,n1,n2,n3,n4,n5,n6,lN]) rfl ⟨_,rfl,m7,by first|exact((P.A (gI.zf (S:=λb=>b=w.heap.size) rfl _ _ _ _ _ _ _) λn e=>cY e.symm).alloc _).drew|exact((P.A (gI.zf (S:=λb=>b=w.heap.size) rfl _ _ _ _ _ _ _) λn e=>cY e.symm).alloc _).drewN _⟩
 rw[az hx];by_cases hk:tk=0
 .rw[aE hk];subst hk;simp only;go_enter func224,ntmps224;go_wp2_with fail;refine(mX a b c d x _).L ?_;rw[A];unfold Ot;rintro e w'⟨rfl,y⟩;have P:=gN (((Bl.refl w).alloc _).H y);obtain⟨d4,d6,r0⟩:=P.M Y Z c6 q0;obtain⟨r1,r2,r3⟩:=P.M Y q1 q2 q3;have HN:=gN ((y.heap bz).H (ao w (ig oL 215)));have lN:w.heap.size<w'.heap.size:=(ae.1 HN).1;have lP:p<w'.heap.size:=eR Y lN;clear y c0 c1 c2 c3 Z c6 q0 q1 q2 q3 A;have a5:(i:Int)<16:=C;obtain⟨n0,n1,n2,n3,n4,n5,n6,f0,f1,f2,f3,f4,f5,f6⟩:=mH HN;go_wp2;exact aG (v:=lC 3 0 0 0 0 0 OO) (by simp[results,results224,go_sem,lC,n0,n1,n2,n3,n4,n5,n6,lN]) rfl ⟨_,rfl,m7,(P.A (gI.zf (S:=λb=>b=w.heap.size) rfl _ _ _ _ _ _ _) λn e=>cY e.symm).alloc _⟩
 rw[az hk];have ac:(tk==0)=false:=je hk;clear hk;simp only;go_enter func224,ntmps224;go_wp2_with fail;refine(mX a b c d x _).L ?_;rw[A];unfold Ot;rintro e w'⟨rfl,y⟩;have P:=gN (((Bl.refl w).alloc _).H y);obtain⟨d4,d6,r0⟩:=P.M Y Z c6 q0;obtain⟨r1,r2,r3⟩:=P.M Y q1 q2 q3;have HN:=gN ((y.heap bz).H (ao w (ig oL 215)));have lN:w.heap.size<w'.heap.size:=(ae.1 HN).1;have lP:p<w'.heap.size:=eR Y lN;clear y c0 c1 c2 c3 Z c6 q0 q1 q2 q3 A;have a5:(i:Int)<16:=C;obtain⟨n0,n1,n2,n3,n4,n5,n6,f0,f1,f2,f3,f4,f5,f6⟩:=mH HN;have bA:=gN ((Bl.refl w').alloc (ig (rH tk tl ta va tv vc) 91));go_wp2_with fail;refine(Ba tk tl ta _ tv _ ((Hv.bl P).bl bA) (gM a4.o)).L ?_;rintro e w2⟨v',rfl,a1,V⟩;obtain⟨a6,a7,ev⟩:∃a c,v'=gK a tv.length c:=by obtain⟨a',c',e'⟩:=(jD V).len;rw[jQ V]at e';exact⟨a',c',e'⟩
 subst ev;obtain⟨a8,aa,lw⟩:=iI (((bA.H a1).heap lN).H HN) (P.H (bA.H a1)) (aF (eS lN) bA.lt);have a9:=gN (iE (base':=w.heap.size) V λb ab=>aF lw (V.lt b ab).1);clear n0 n1 n2 n3 n4 n5 n6 f0 f1 f2 f3 f4 f5 f6 a1 V bA;obtain⟨n0,n1,n2,n3,n4,n5,n6,f0,f1,f2,f3,f4,f5,f6⟩:=mH a8;go_wp2;have F:=gI.zf (w:=w2) (S:=λb=>b=w.heap.size) rfl (I 2) (I 0) (I 0) (I tk) (I tl) (I ta) (mP a6 tv a7);exact aG (v:=lC 2 0 0 tk tl ta (mP a6 tv a7)) (by simp[results,results224,go_sem,lC,n0,n1,n2,n3,n4,n5,n6]) rfl ⟨_,rfl,F.jH a9 λb hb e=>gW a9 a8 bT (kz hb e),aa.A F λn e=>cY e.symm⟩
open Go.RowKit
attribute [local go_sem ↓] Go.wp_at_zero Go.wp_at_succ
def Ks.bl{base:Nat}{p:Nat}{a b c:Int}{ct:Nat->Ct}{y:List Int}(h:Ks base w p a b c d ch ep mk ct y K)(A:Bl w w'):Ks base w' p a b c d ch ep mk ct y K:=
 ⟨h.kY.bl A,h.k0,h.k1,h.k2,h.k3,h.k4,h.k5,h.k6,(gI.D A).jH h.ij λ_ _ e=>e,h.kd,h.cl,h.ca,λi F=>(jY A).jH (h.val i F) λ_ _ e=>e,h.ny⟩
def Ks.qF{base:Nat}{p:Nat}{a b c:Int}{ct:Nat->Ct}{y:List Int}(h:Ks base w p a b c d ch ep mk ct y K)(A:gI (λx=>x=g) w w'){cs:Array Value}(F:w.heap[g]?=some (ig cs 215 (0,0)))(L:p≠g):Ks base w' p a b c d ch ep mk ct y K:=
 ⟨h.kY.only A L,h.k0,h.k1,h.k2,h.k3,h.k4,h.k5,h.k6,A.jH h.ij λb e e'=>gW h.ij F bT (kz e e'),h.kd,h.cl,h.ca,λi H=>A.jH (h.val i H) λb e e'=>gW (h.val i H) F bT (kz e e'),h.ny⟩
def gI.xX{c:World}(h:gI S a b)(k:gI T b c)(A:∀n,T n->a.heap.size<=n):gI S a c:=
 ⟨k.os.H h.os,k.tape.H h.tape,k.output.H h.output,aF h.size k.size,λi y F=>by rw[k.block i (af y h.size) λe=>by have:=A i e;omega,h.block i y F]⟩
theorem Qb(base p)(a b c d ch ep mk)(ct)(img)(K)(ep')(w)(h:Ks base w p a b c d ch ep mk ct img K)(hb:base<=w.heap.size)(hl:img.length<=1000000000000):iU 178 #[O p,I ep'] w λe w'=>∃K',e=gU (if ep'<ep then lC 5 ep 0 0 0 0 OO else lC 1 ep' 0 0 0 0 OO)/\Ks base w' p a b c d ch (if ep'<ep then ep else ep') mk ct (if ep'<ep\/ep'=ep then img else img++j5 1 [ep'] []) K'/\Gk p K K' w w':=by
 have H:=gN h;have hp:=h.kY.lt;have c5:=h.kY.cell 5 bT;rw[h.k5]at c5;clear h;obtain⟨M,HN⟩:=gO ((Bl.refl w).alloc (ig oL 215)) (ao w (ig oL 215));by_cases P:ep'<ep
 .simp only[P,if_true,true_or];go_enter func178,ntmps178;go_wp2_with fail;refine gS (vM p K ep _ (H.kY.bl M) H.k5) λw' A=>?_;obtain⟨y,L,Z⟩:=iI ((A.heap bz).H HN) ((H.bl M).bl A) (M.H A);have lN:w.heap.size<w'.heap.size:=(ae.1 y).1;obtain⟨n0,n1,n2,n3,n4,n5,n6,f0,f1,f2,f3,f4,f5,f6⟩:=mH y;unfold lC;clear A;go_wp2;have F:=gI.zf (w:=w') (S:=λb=>b=w.heap.size) rfl (I 5) (I ep) (I 0) (I 0) (I 0) (I 0) OO;refine aG (v:=lC 5 ep 0 0 0 0 OO) (by simp[results,results178,go_sem,lC,n0,n1,n2,n3,n4,n5,n6]) rfl ⟨K,rfl,L.qF F y C,Gk.D (Z.A F λn e=>cY e.symm)⟩
 have E:Hid ((if ep'<ep\/ep'=ep then img else img++j5 1 [ep'] [])=img++if ep'=ep then []else j5 1 [ep'] []):=by
  unfold Hid;by_cases V:ep'=ep
  .rw[aE (.inr V),aE V,cF]
  rw[az λh=>h.elim P V,az V]
 rw[E.o,az P,az P];have Hr:=gN (xy base p a b c d ch ep mk ct img K ep' _ (H.bl M) (aF hb M.lt) hl);generalize (img++if ep'=ep then []else j5 1 [ep'] [])=a2 at*;clear E;go_enter func178,ntmps178;go_wp2_with fail;refine Hr.L ?_;rintro e w'⟨K',rfl,Y,ho,_⟩;have a0:Hid (¬(w.heap.size=p\/(K 71).ownBlock=some w.heap.size)):=by
  rintro(e|e)
  .omega
  exact fQ _ (H.ij.lt _ e).2
 obtain⟨y,L⟩:=gO ((ho.only.block _ bz a0).H HN) Y;have d5:=Y.kY.cell 5 bT;rw[Y.k5]at d5;have a1:=gN (ho.M M);have lN:w.heap.size<w'.heap.size:=(ae.1 y).1;obtain⟨n0,n1,n2,n3,n4,n5,n6,f0,f1,f2,f3,f4,f5,f6⟩:=mH y;clear Y ho c5 Hr;go_wp2;have F:=gI.zf (w:=w') (S:=λb=>b=w.heap.size) rfl (I 1) (I ep') (I 0) (I 0) (I 0) (I 0) OO;refine aG (v:=lC 1 ep' 0 0 0 0 OO) (by simp[results,results178,go_sem,lC,n0,n1,n2,n3,n4,n5,n6]) rfl ⟨K',rfl,L.qF F y C,a1.new F λb e=>cY e.symm⟩
theorem Iv(base p)(a b c d ch ep mk)(ct)(img)(K)(ep' x)(w)(h:Ks base w p a b c d ch ep mk ct img K)(he:ep'<ep):iU 171 #[O p,I ep',I x] w λe w'=>e=gU (lC 5 ep 0 0 0 0 OO)/\Ks base w' p a b c d ch ep mk ct img K/\Bl w w':=by
 have H:=gN h;have hp:=h.kY.lt;have V:=h.kY.cell 5 bT;rw[h.k5]at V;clear h;obtain⟨L,Y⟩:=gO ((Bl.refl w).alloc (ig oL 215)) (ao w (ig oL 215));go_enter func171,ntmps171;go_wp2_with fail;refine gS (vM p K ep _ (H.kY.bl L) H.k5) λw' y=>?_;obtain⟨A,M,P⟩:=iI ((y.heap bz).H Y) ((H.bl L).bl y) (L.H y);have lN:w.heap.size<w'.heap.size:=(ae.1 A).1;obtain⟨Z,n1,n2,n3,n4,n5,n6,f0,f1,f2,f3,f4,f5,f6⟩:=mH A;unfold lC;clear y;go_wp2;have F:=gI.zf (w:=w') (S:=λb=>b=w.heap.size) rfl (I 5) (I ep) (I 0) (I 0) (I 0) (I 0) OO;exact aG (v:=lC 5 ep 0 0 0 0 OO) (by simp[results,results171,go_sem,lC,Z,n1,n2,n3,n4,n5,n6]) rfl ⟨rfl,M.qF F A C,P.A F λn e=>cY e.symm⟩
theorem FH(base p)(a b c d ch ep mk)(ct)(img)(K)(ep' x)(w)(h:Ks base w p a b c d ch ep mk ct img K)(hb:base<=w.heap.size)(hl:img.length<=1000000000000)(a0:∀i,i<16->(ct i).val.length<=255)(he:¬ep'<ep)(wh m)(t)(y:mw a b c d ch mk ct x=(wh,m,t)):iU 171 #[O p,I ep',I x] w λe w'=>∃K' v',e=gU (lC wh 0 m t.kd t.cl t.ca v')/\w'.ownsRow w.heap.size 5 1 v' t.val.length (t.val.map B8)/\Ks base w' p a b c d ch ep' mk ct (img++if ep'=ep then []else j5 1 [ep'] []) K'/\Gk p K K' w w'/\(ep'=ep->K'=K/\Bl w w')/\∀g,v'.ownBlock=some g->¬KF K' g:=by
 have H:=gN h;have hp:=h.kY.lt;have c5:=h.kY.cell 5 bT;rw[h.k5]at c5;clear h;obtain⟨bA,HN⟩:=gO ((Bl.refl w).alloc (ig oL 215)) (ao w (ig oL 215));have Hr:=gN (xy base p a b c d ch ep mk ct img K ep' _ (H.bl bA) (aF hb bA.lt) hl);generalize (img++if ep'=ep then []else j5 1 [ep'] [])=P at*;have HL:Hid (∀W K',Ks base W p a b c d ch ep' mk ct P K'->_):=λW K' hk=>zQ base p a b c d ch ep' mk ct P K' x W hk a0;rw[y]at HL;obtain⟨tk,tl,ta,tv⟩:=t;simp only at HL|-;clear a0 y;go_enter func171,ntmps171;go_wp2_with fail;refine Hr.L ?_;rintro e w'⟨K',rfl,hk,ho,hs⟩;have Hs:=gN hs;have a3:Hid (¬(w.heap.size=p\/(K 71).ownBlock=some w.heap.size)):=by
  rintro(e|e)
  .omega
  exact fQ _ (H.ij.lt _ e).2
 obtain⟨a1,V,a4⟩:=iI ((ho.only.block _ bz a3).H HN) hk (ho.M bA);have lN:w.heap.size<w'.heap.size:=(ae.1 a1).1;clear hk ho hs c5 Hr;go_wp2_with fail;refine(HL _ _ V).L ?_;rintro e w2⟨v',rfl,Z,M⟩;obtain⟨va,vc,ev⟩:∃a c,v'=gK a tv.length c:=by obtain⟨a',c',e'⟩:=(jD Z).len;rw[jQ Z]at e';exact⟨a',c',e'⟩
 subst ev;obtain⟨Y,a5,a6,Hv⟩:=kN ((M.heap lN).H a1) (V.bl M) (a4.post M) (iE (base':=w.heap.size) Z λb a7=>aF (eS lN) (Z.lt b a7).1);obtain⟨n0,n1,n2,n3,n4,n5,n6,f0,f1,f2,f3,f4,f5,f6⟩:=mH Y;unfold lC;have a2:Hid (ep'=ep->K'=K/\Bl w w2):=λe=>⟨(Hs e).1,(bA.H (Hs e).2).H M⟩;have a8:Hid (∀g,(mP va tv vc).ownBlock=some g->¬KF K' g):=λg e hF=>by have:=(Z.lt g e).1;have:=(V.PM hF).2;omega
 clear M Z HL;go_wp2;have F:=gI.zf (w:=w2) (S:=λb=>b=w.heap.size) rfl (I wh) (I 0) (I m) (I tk) (I tl) (I ta) (mP va tv vc);exact aG (v:=lC wh 0 m tk tl ta (mP va tv vc)) (by simp[results,results171,go_sem,lC,n0,n1,n2,n3,n4,n5,n6]) rfl ⟨K',_,rfl,F.jH Hv λb hb e=>gW Hv Y bT (kz hb e),a5.qF F Y C,a6.new F λb e=>cY e.symm,λe=>⟨(a2 e).1,(a2 e).2.A F λn e=>C⟩,a8⟩
end
end Go.Proofs.YtbghhbpacijmmaaGreat
