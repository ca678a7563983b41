import PyProof.Rows.All
import Wide.All
import OpenK.AllK
import PySem.Challenge.RW_echohouse_k22_parts_tell
noncomputable section
local macro_rules | `(tactic| walk_at "sc")=>`(tactic| exact ⟨rfl,rfl,rfl,by decide +kernel,rfl,by decide +kernel,by decide +kernel⟩)
set_option Elab.async false
set_option linter.all false
set_option maxRecDepth 100000
set_option maxHeartbeats 4000000
local macro_rules | `(tactic| walk_at "ev")=>do
  let ns:List Lean.Name:=[`Bool.false_eq_true,`Bool.not_false,`Bool.not_true,`DJ,`DK,`Iu,`List.cons_append,`List.getElem?_cons_succ,`List.getElem?_cons_zero,`List.length_cons,`List.length_nil,`List.map_cons,`List.map_nil,`List.nil_append,`List.replicate_succ,`List.replicate_zero,`List.set_cons_succ,`List.set_cons_zero,`Nat.reduceAdd,`Nat.reduceLeDiff,`Nat.reduceSub,`Nat.sub_self,`Nat.zero_add,`Option.bind_none,`Option.bind_some,`and_self,`and_true,`beq_self_eq_true,`boolsOf,`rV,`mP,`cn,`QE,`II,`gh,`decide_false,`decide_true,`aS,`ki,`fy,`fS,`kj,`fC,`ao,`Lw,`lG,`ag,`QG,`vG,`FL,`fz,`vH,`bZ,`eR,`gD,`bH,`au,`fj,`iG,`ar,`uq,`QH,`uw,`dU,`bj,`CC,`aF,`N5,`bA,`bX,`yJ,`cw,`cq,`cZ,`ux,`uy,`ae,`aZ,`lH,`eE,`oB,`Gb,`sr,`LD,`Ed,`gQ,`Ge,`LF,`Nn,`Gh,`Gi,`Gj,`Gk,`LG,`IW,`oC,`IY,`ay,`ai,`bG,`bK,`if_false,`if_true,`CU,`zv,`zw,`Bu,`zx,`En,`Bw,`xg,`xh,`xi,`zy,`xj,`Bx,`zA,`uC,`oI,`xk,`qi,`xm,`By,`zB,`uD,`xo,`xp,`zC,`xq,`Bz,`zD,`uE,`xr,`xu,`zE,`xv,`BA,`zF,`uF,`xy,`xB,`zG,`xC,`BB,`zH,`uG,`xD,`xE,`zI,`xF,`BC,`zJ,`uH,`xG,`xH,`zK,`xI,`BD,`zL,`mZ,`ite_false,`ite_true,`Sh,`Si,`QT,`RK,`RL,`Sj,`cQ,`Sk,`ne_eq,`not_false_eq_true,`not_true_eq_false,`reduceCtorEq,`reduceIte,`O7,`Ny,`true_and,`iQ]
  let mut ls:Array (Lean.TSyntax `Lean.Parser.Tactic.simpLemma):=#[]
  for n in ns do
   unless (<- Lean.Macro.resolveGlobalName n).isEmpty do
    ls:=ls.push (<- `(Lean.Parser.Tactic.simpLemma| $(Lean.mkIdent n):ident))
  `(tactic| simp only [$[$ls],*, *])
def zaa:=@Option.bind_some
def zab:=@List.forall_mem_cons
def zac:=@List.mem_singleton
def zad:=@List.mem_cons_self
def zae:=@List.mem_cons_of_mem
def zaf:=@List.map_cons
def zag:=@Nat.le_of_ble_eq_true
def zah:=@List.length_map
def zai:=@List.length_append
def zaj:=@List.length_cons
def zak:=@Nat.le_refl
def zal:=@List.getElem?_set_ne
def zam:=@List.getElem?_set_self
def zan:=@List.mem_cons
def zao:=@List.mem_map
def zap:=@List.not_mem_nil
def zaq:=@Nat.ne_of_lt
def zar:=@List.mem_append_right
def zas:=@List.getElem?_eq_some_iff
def zat:=@Nat.lt_of_lt_of_le
def zau:=@List.length_singleton
def zav:=@List.getElem?_eq_getElem
def zaw:=@PySem.boot_len
def zax:=@List.append_nil
def zay:=@Nat.lt_of_le_of_lt
def zaz:=@List.map_map
def zaA:=@Nat.le_trans
def zaB:=@List.mem_append
def zaC:=@PySem.mem_of_lookup
def zaD:=@List.getD_eq_getElem?_getD
def zaE:=@List.size_toArray
def zaF:=@List.replicate_succ
def zaG:=@PySem.W.kia_one
def zaH:=@List.map_append
def zaI:=@Int.natAbs_mul
def zaJ:=@Nat.lt_succ_of_lt
def zaK:=@Bool.false_ne_true
def zaL:=@Option.some.inj
def zaM:=@Int.toNat_natCast
def zaN:=@List.flatten_cons
def zaO:=@List.append_assoc
def zaP:=@List.nodup_append
def zaQ:=@List.mem_range
def zaR:=@Nat.lt_trans
def zaS:=@Int.fmod_eq_emod_of_nonneg
def zaT:=@List.getElem?_map
def zaU:=@Nat.ne_of_gt
def zaV:=@PySem.F.slot_str_join
def zaW:=@PySem.F.type_str_join
def zaX:=@List.filterMap_append
def zaY:=@Nat.mod_lt
def zaZ:=@List.filterMap_cons_some
def za0:=@List.lookup_cons
def za1:=@Nat.lt_irrefl
def za2:=@List.filter_cons_of_pos
def za3:=@List.length_range
def za4:=@List.mem_filter
def za5:=@PyProof.Rows.callWith_type1
def za6:=@Nat.zero_le
def za7:=@Array.getElem?_eq_some_iff
def za8:=@Int.fdiv_eq_ediv_of_nonneg
def za9:=@List.length_take
def zba:=@List.length_replicate
def zbb:=@PySem.wpAny_isSubtype_exc
def zbc:=@List.drop_eq_getElem_cons
def zbd:=@List.mem_append_left
def zbe:=@List.nodup_cons
def zbf:=@List.nil_append
def zbg:=@Int.mul_left_comm
def zbh:=@Int.mul_comm
def zbi:=@Int.mul_assoc
def zbj:=@Nat.lt_succ_self
def zbk:=@List.length_drop
def zbl:=@Bool.beq_eq_decide_eq
def zbm:=@Int.gcd_dvd_right
def zbn:=@Bool.true_and
def zbo:=@List.mem_of_getElem?
def zbp:=@Nat.Coprime.gcd_mul_left_cancel_right
def zbq:=@List.drop_length
def zbr:=@PySem.F.slot_dict_itemiterator_iter
def zbs:=@List.filterMap_cons_none
def zbt:=@List.mem_filterMap
def zbu:=@Nat.min_eq_left
def zbv:=@PySem.W.kitx_list
def zbw:=@PyProof.Rows.slot_tuple_getitem
def zbx:=@List.reverse_cons
def zby:=@List.nodup_nil
def zbz:=@Nat.mul_le_mul
def zbA:=@Nat.div_lt_iff_lt_mul
def zbB:=@PySem.F.slot_str_removeprefix
def zbC:=@PySem.F.type_str_removeprefix
def zbD:=@Int.gcd_dvd_left
def zbE:=@Bool.and_eq_true_iff
def zbF:=@Int.natAbs_of_nonneg
def zbG:=@PySem.W.plainGet_of
def zbH:=@List.of_mem_zip
def zbI:=@Array.length_toList
def zbJ:=@List.getElem_of_mem
def zbK:=@Nat.div_add_mod
def zbL:=@Int.mul_pos
def zbM:=@List.getElem?_range
def zbN:=@Nat.le_of_lt
def zbO:=@PySem.W.callWith_K
def zbP:=@List.zip_cons_cons
def zbQ:=@Nat.pos_of_ne_zero
def zbR:=@List.filter_append
def zbS:=@PySem.W.kitx_dict
def zbT:=@Option.isSome_map
def zbU:=@List.pairwise_map
def zbV:=@Nat.le_succ
def zbW:=@List.map_take
def zbX:=@Nat.le_add_right
def zbY:=@List.take_length
def zbZ:=@Int.gcd_mul_left
def zb0:=@List.map_nil
def zb1:=@List.all_map
def zb2:=@Nat.gcd_comm
def zb3:=@Nat.pow_succ
def zb4:=@Int.ne_of_gt
set_option hygiene false
local macro_rules|`(.$c:ident)=>do
 let some i:="a c e f h i j l m o p q r s t u v x y z B D G H I J L M O Q R S U V X Y Z aa ab ac ad ae af ag ah ai aj ak al am an ao ap aq ar au av aw ax ay az aA aB aC aD aE aF aG aH aI aJ aK aL aM aN aO aP aQ aR aS".splitOn.idxOf? c.getId.toString|Lean.Macro.throwUnsupported
 let a<-`([(by kernel_rfl),
(by decide +kernel),
(by omega),
(by decide),
(by simp),
(by assumption),
(by simp;omega),
(PySem.W.Frag),
(Value->Shared->Prop),
((.str "echohouse.parts" 590)),
((Or.inl rfl)),
((model X.prog X.w)),
((kk w.params)),
(List (Addr×Obj)),
((.str "echohouse.errors" 194)),
(Inv X pins σ H s),
((fun _ _=>rfl)),
((zab.mpr ⟨⟨i8,.a,.a,.a,.a,.a⟩,(zab.mpr ⟨⟨f8,.a,.a,.a,.a,.a⟩,(zab.mpr ⟨⟨k8,.a,.a,.a,.a,.a⟩,(zab.mpr ⟨⟨o8,.a,.a,.a,.a,.a⟩,(zab.mpr ⟨⟨r8,.a,.a,.a,.a,.a⟩,(zab.mpr ⟨⟨t8,.a,.a,.a,.a,.a⟩,(zab.mpr ⟨⟨v8,.a,.a,.a,.a,.a⟩, (fun _ h=>absurd h zap) ⟩)⟩)⟩)⟩)⟩)⟩)⟩)),
((.str "abcdefghijklmnopqrstuvwxyz")),
((mX X scope N' C cs Y8 Y9 fp pins)),
((.str "law_echohouse_k22_parts_tell" 1086)),
((.lst  (ps.map Pt.obj) )),
(Str-> Option Value ),
((.str "echohouse.wiring" 871)),
(List Nat),
((.lst  (ps.map Pt.law) )),
((x == ("__debug__" : Str))),
((model prog w)),
((aM aN  (.a 0)  aj  .v )),
((.bl false)),
(List T->Option T),
([s p.obj,s p.law,s  (.dct ns ts) ,s (cF  (p.told val) ),s (.tup  (p.ws.map tx) )]),
(List (List Nat)),
([s  (tx (gN a b)) ,s (tx  (sgn a++ds a.natAbs) ),s (tx m),s (tx (ds b)),none]),
(List Value),
(List Str),
((aH rfl rfl rfl)),
((.ListComp elt [⟨tg,iter,ifs,0⟩] scope pos)),
((.builtin "object.__new__")),
((zab.mpr ⟨d12.mono .f,(zab.mpr ⟨c12.mono .f,(zab.mpr ⟨e12.mono .f,(zab.mpr ⟨f12.mono .f,(zab.mpr ⟨g12.mono .f,(zab.mpr ⟨i12.mono .f, (fun _ h=>absurd h zap) ⟩)⟩)⟩)⟩)⟩)⟩)),
(["self","values"]),
((.dct ns ts)),
([s (qX sc),s (.int c),s (br a),s (br b),s (br o),s (br m),s (bY  (eP nm (a+1+b+m)) ),s (bY (eP nm (a+1+b))),none,none,none,none]),
([d0,d1,d2,d3,d4,d5,d6]),
((cI hr.units)),
((.int c)),
(List Addr),
((bw.refl sm)),
((cellsFrom (s2.heap.objs.size+2) scope.names  (pk X.env scope.names []) )),
(Program),
(["self"]),
((sgn a++ds a.natAbs)),
((cF  (p.told val) )),
((ah aB)),
((.builtin "ValueError.__new__")),
([.ref 38,.type "ValueError", .type "Exception", .type "BaseException", .type "object"]),
([Str.ofString "name", Str.ofString "source", Str.ofString "by", Str.ofString "terms"]),
((.bool true)),
((s.heap.objs.size+1)),
((pA al++[S  [110,111,32,110,97,109,101] ])),
(List Expr),
(⟨x,H1,I1,r1,q1⟩),
(⟨_,rfl⟩),
((by simpa using h)),
((fun _ h=>absurd h zap)),
((.DictComp kx vx [⟨tg,iter,ifs,0⟩] scope pos)),
((Heap.lt_size e)),
(aJ K Y0 Y9 F H σ τ),
((aH rfl (aH  (aA _ (bJ rfl) rfl)  rfl rfl) rfl)),
((tx  (gN q.num q.den) )),
((fun _ _=>False)),
((A.deeper (envOfC qual (ax st) s.heap.objs.size f cdv))),
(((List.range (a+1)).map (fun i=>(Pt.inp (nm i)).law)++is.map Pt.law)),
((s (br k))),
((Addr×(List T->Option T))),
([topFrame ⟨0,0,0,0⟩]),
((nz bS bW [(gS,false),(dv,false),(cv,false),(bS,true),(bW,true),(dh,false),(eu,false)])),
([s o,s  .ae ,s (cF (Rat.divInt t b)),s  (.j (lu u.1)) ,s (tx u.2)]),
((bZ (uq (iG (cq (ao bN (.c 8 (fC (.ty "int")))))) (cq (ao bN (.c 8 (fC (.ty "bool")))))) (bj (fC  .Q )) bH)),
([s  (tx (gN a b)) ,s (tx  .ao ),s (tx m),s (tx (ds b)),s (yK a b)])])
 return a.raw[1][2*i][1]
local macro_rules|`(.$c:ident)=>do
 let some i:="aT aU aV aW aX aY aZ a0 a1 a2 a3 a4 a5 a6 a7 a8 a9 ba bb bc be bf bg bh bi bj bm bn bo bp bq br bt bu bv bw bx bz bA bB bC bD bE bF bG bH bI bJ bK bL bM bN bO bP bQ bR bS bT bU bV bW bX bY bZ b0 b1 b2 b3 b4 b5 b6 b7 b8 b9 ca cb cd ce cf cg".splitOn.idxOf? c.getId.toString|Lean.Macro.throwUnsupported
 let a<-`([(⟨absHeap (ub w.params) 791 {},Array.mk [],boot_drawn,1238,os⟩),
((cS [q39,q40,q43] "source" (ae 0))),
((.Call (.Name x p) (e::es) [] pos)),
(Option Sl),
((rj al++[.tup  [.int 1,.int 7] ])),
((fun _ _ _ _ _ _=>(aa 0 (pv 0)))),
(⟨_,Heap.get?_push_size _ rfl,rfl,rfl⟩),
((s p.law)),
((bK  (.a 0 1) )),
((List.replicate (36-(ds (n%10^36)).length) 48++ds (n%10^36))),
([s (tx (Pt.sum n ts).row),s (tx (Pt.sum n ts).kind),s (bY (Pt.sum n ts).args)]),
((∀c o,c≠z->c≠TO->c≠i1->c≠i2->s.heap.get? c=some o->h'.get? c=some o)),
(⟨absHeap (T w.params) n {},Array.mk [],boot_drawn,k,os⟩),
((starEach es X.env)),
(⟨.type "tuple", none,.seq #[] 0,#[]⟩),
((k == NameKind.free&&env.scope.kind == .function&&env.kindOf n == some .cell)),
((by simpa using aW .e)),
(iz X.prog X.w X.K X.mg X.base CX k f fd ps sp),
([s (qX sc),s .ai,s (br a),s (br b),s (br o),s (br m),s (bY  (eP nm (a+1+b+m)) ),none,none,none,none,none]),
((⟨Qh w.params,15,{},#[],PySem.W.boot_drawn,187,os⟩:PySem.W.SharedT)),
((cW no cap (frzAll cap p.2))),
((bJ rfl)),
((.str "echohouse.fracs" 503)),
((.a bz 0 1)),
(⟨.a,.a,.a⟩),
((pk X.env scope.names [])),
([s (tx n),s (bY (ts.map kU)),s (.tup  (ts.map gq) )]),
([s (tx p.nam),s (bY (Wp ps p)),s (bY ord)]),
((fun z=>nomatch z)),
([s (qX sc),s .ai,none,none,none,none,none,none,none,none,none,none]),
((s1.trans s2)),
((ha pins s σ H _ I h)),
((.ref s2.heap.objs.size)),
([97+(tail.getD j 0+k*(if j=a then 1 else 0))%26]),
((ar bz (ae 1) (ar dM (ar aR (.c bz 2 0) (ar cG (ae 3) (.m gg (.c eJ 0 4)))) (az 26)))),
((ar aR (ar bz (eR (ag (fC (.str " -")) (ag  (fC (.str " "))  au))) (.m gg (ar Bm (ae 0) (az 0)))) (ae 1))),
((.m mP (bF 1 [2] (aZ (ae 1)) (ai 0) aS (.c Nm 0 1)))),
((fS 8 (cZ (ag (fC (.str "cell")) (.e (ar bz (ae 6) (.r 9)) (ar bz (ae 7) (ar bz (ae 11) (ae 9)))))))),
((fun _ _ _ _ _ _=>dJ)),
((by rw [zai,zau];omega)),
((.lst vs)),
((.dK kvs)),
(X.A.units+64<cLine),
(List T->aD->Option aD),
(List Stmt),
(List Pt),
([.Tuple [.Name x px,.Name y py] kt pt]),
((aY dw rfl q13 zaw  (.f 0) )),
((.bl true)),
(X.calm=true),
([s t, s (.ptr a), s p.obj, none]),
((ts.map  (fun t=>some (Sl.sh t)) ++List.replicate (m-n) none)),
((ls.map fun l=>PyData.str (S l))),
((bh (bh dX))),
((EP X pins σ Q)),
(⟨.a,.a,.a,.a⟩),
(["one","other"]),
(["_law_cell_here","_law_bases"]),
((zak _)),
((fS 8 (cZ (.e (fC (.str "out")) (ar bz (ae 7) (ar bz (ae 11) (ar aR (ae 3) (ae 9)))))))),
((by kernel_rfl)),
((.str "echohouse.divisors" 418)),
((cS [q38,q39,q40,q41] "name" (ae 0))),
((s2.heap.objs.size+1)),
((fun r s'=>r=.ok (.ret .aw)/\OldK s₁.heap s'.heap/\s'.os=s₁.os/\AllBare s'.gens)),
((cu rfl rfl)),
((ar bz (ae 1) (az 1))),
((ha Y0 Y9)),
(⟨.bl _,H,I,rfl,q F H _ .ak rfl⟩),
([s (qX sc),s .ai,s (br a),s (br b),s (br o),s (br m),none,none,none,none,none,none]),
((by simp [Pt.kind])),
((.ref s.heap.objs.size)),
((.a bz 1 0)),
((wpAny_pure ?_)),
((by simp only [List.size_toArray]<;>omega)),
((ao .aP (.c 0 (cZ (.e (fC (.ptr bS)) (fC (.ptr bW))))))),
([.ty "list", .ty "tuple"]),
((List Nat)),
((.inl rfl)),
(((sg++ds a.natAbs)++[47]))])
 return a.raw[1][2*i][1]
local macro_rules|`(.$c:ident)=>do
 let some i:="ch ci cj ck cm cn cq cr cs cu cv cw cx cy cz cA cB cC cD cE cF cG cH cI cJ cK cL cM cN cO cP cQ cR cS cT cU cV cW cX cY cZ c1 c2 c3 c4 c5 c6 c7 c8 c9 da db dd de df dg dh di dk dl dm dn dq dr ds dt du dv dw dx dy dz dA dC dD dE dF dG dH dI".splitOn.idxOf? c.getId.toString|Lean.Macro.throwUnsupported
 let a<-`([((.c 1 (eR (ag (az 2) (ag (az 5) (.e (az 2) (az 9))))))),
(Binds K fd .an []),
([s (tx n),s (nt .ag),s (bY ws),none,none]),
((he pins s σ H _ I h)),
([s .ai,s (br n),s .y,s (.int  ((1+d8:Nat):Int) ),s (br a),none,none,none,none]),
((zac.mpr rfl)),
(Nat->List Nat),
(List Nat->Nat),
(List (Key×V)),
((by rw [List.length_append];simp;omega)),
((bU hf_source (.a 0))),
((Int.gcd (a*d.fdiv s+c*b.fdiv s) s:Nat)),
((HT.gw xs.length xs.length hi-HT.gw xs.length 0 lo)),
((tx (textOf ps))),
([s .ai,s (br n),s .y,s (.int  ((1+d8:Nat):Int) ),none,none,none,none,none]),
(List (Str×Addr)),
((⟨ub w.params,791,{},#[],PySem.W.boot_drawn,1238,os⟩:PySem.W.SharedT)),
((.Name x pos)),
(X.env.scope.names.lookup y=some .local),
(N'.length=no+cap.length),
((by rw [bO rfl mQ n5];rfl)),
((fun cdv A outer s H vs Q E hr z=>?_)),
((PySem.W.fnOf x qual (kh st) (ff st) (ax st) .none kV doc pm an cdv ct)),
(["_law_cell_here","_law_many"]),
(List (Str×NameKind)),
(Array Value),
((keywordEach [] X.env)),
((fC (.str "-"))),
((eP nm N)),
(mg "isinstance" = none),
(T->T->Option T),
((.builtin "object.__class__")),
((.builtin "type.__call__" ⟨.ref C::us,kw⟩)),
(Option Addr),
([s (qX sc),none,none,none,none,none,none,none,none,none,none,none]),
([s (br j),s .y,s (nt tail),s (br k),s (br a)]),
((fC (.str "sum"))),
((by rw [E.len];exact hl)),
((I.ok.hd hc)),
(⟨.type "tuple", none,.seq #[.int (0) 505,.int (1) 506] 0,#[]⟩),
([s (tx n),s .aI,s (tx w),s (cF q)]),
((upd H8 s2.heap.objs.size (.lst (vs++[y])))),
((ps.map Pt.obj)),
((h Y0 Y9)),
((ar aR (ar aR (.a cG 3 48271) (ar cG (az 7919) (ae 4))) (az 1))),
((List Key×Addr×Value)),
((.lst xs)),
((s.heap.objs.size+2)),
((.dct (ns.map S) vs)),
(V-> Option Int -> Option Int ->Hp->VK->Prop),
(List (List Key×V)),
((Addr×Bool)),
((.Name x p1)),
((D1 ps)),
(((ps.filter Pt.isIn).length:Nat)),
((by rw [bO rfl jT lB];rfl)),
([s (Pt.sum n us).law,s .ae,none,s (.j 0),s (.j 1),none,none]),
([none,s .y,s (nt tail),s (br k),s (br a)]),
((s (bY (free ps ord)))),
((.int 1000000000000000000000000000000,τ)),
([s .ai,s (nt bs)]),
([s (.obj eu Ii (a::.tup L::r))]),
((eP nm (a+1+b+m))),
((by simpa using hi)),
((.a bz 0 2)),
((fun b ob q=>Heap.get?_push_of_some _ q)),
(eK K x qual st f fd),
((zar _ (zar _ (gE hb e)))),
((some v)),
((bj (ar cX  (fC (.str ""))  (kl 1 (dU  (ux oC (az 1)) ))))),
(Value-> Value->Sem Value ),
(List Int),
([s  (tx (gN a b)) ,none,none,none,none]),
([.int a,.int b]),
((fun b u e=>Heap.get?_push_of_some _ e)),
((fC (.str " "))),
((.none)),
(mg "len" = none),
(SI X tg iter fi),
(Option Value)])
 return a.raw[1][2*i][1]
local macro_rules|`(.$c:ident)=>do
 let some i:="dJ dL dM dN dO dP dQ dR dS dU dV dW dX dY dZ d0 d1 d2 d3 d4 d5 d6 d7 d8 d9 ea eb ec ed ee ef eg eh ei ej ek el em en eo ep er es et eu ev ew ey ez eA eB eC eD eE eF eG eH eI eJ eK eL eM eN eO eP eQ eR eS eT eU eV eW eX eY eZ e0 e1 e2 e3 e4".splitOn.idxOf? c.getId.toString|Lean.Macro.throwUnsupported
 let a<-`([([fQ (.scr  (ns.map T.int) ),fQ (br k)]),
((hb Y0 Y9)),
([s  (tx (gN a b)) ,s (tx  .ao ),s (tx m),s (tx w),none]),
(["self","name","by","source"]),
(["_law_made","_law_part","_law_values","_law_due_here"]),
((frzAll cap τ1)),
((fC (.str "in"))),
(Unit->Shared->Prop),
(typeOf  (.builtin id) =pure (.type "method_descriptor")),
((rS CX P w K mg base N qual scope f cdv A outer s H E)),
((cw (ar Bm (ux sr (ae 1)) (az 4000)))),
((.str "")),
((.lst ts)),
((ah .aq)),
((.e (.a eO 0 64) (ar w6 (eR (ag (az 26) au)) (ae 3)))),
((.builtin id)),
((ux oC (az 1))),
((fun _=>rfl)),
((fun _ _ _ _ _ _ => dJ)),
((PySem.W.instObj C s.heap.objs.size)),
(ZipApart z TI TO i1 i2 l1 l2),
(List ( Bool×List Nat )),
([s (tx l)]),
((s (br d))),
((Int.gcd a b:Int)),
(List (κ×V)),
(List (Str×Value)),
([s .ai,s (br n),s .y,none,none,none,none,none,none]),
([s .D,s .de,none,none,none]),
([s (.j n),some (.own us),o]),
((zag rfl)),
((val u.2)),
((uw 0 1 (.e (ae 1) (.q dM (ae 1))))),
((qp sc t a .aM .a0)),
((ps.map Pt.law)),
((ls.map tx)),
((fun b o hb e=>(sb.2 b hb).trans e)),
((apos.endLine == cpos.line)),
((aV.refl _)),
((.str "0123456789")),
((.Tuple elts kx px)),
((cJ rfl)),
((by rw [xex];exact hb)),
((bf rfl)),
(((p.told val).den:Int)),
(PassesOwn .q X.A X.env X.xe),
(((ps.filter Pt.isCell).length:Nat)),
([s .ai,s (.j n),some (.own ts),s (.j l),s (br k)]),
([s .D,none,none,none,none]),
((vH (cw (.a eJ 0 1)) (ae 1) (ar aR  .cM  (ae 1)))),
((ha pos pins s σ H _ I h)),
((false,uI sc L ns ts x3 .a0 (s p.obj) (s .ap) x8)),
((by rw [bO rfl iP ji];rfl)),
((fun _ _ => rfl)),
(yF K Y0 Y9 F H σ τ x p d),
((xf n .ag ws [] none)),
((kvs.any fun kv=>decide (kv.1=k))),
((gw items.size items.size hi-gw items.size 0 lo)),
((.tup xs)),
((.frz o .bD)),
((.Tuple [a,b] k2 pt2)),
(List (κ×Value)),
([.ref 337,.type "object"]),
((yJ (ae 1) (dU (az 3)) (dU (ar aR (az 3) .b8)))),
((fun b o _ _ hc e _=>⟨o.slots,kp b o hc e⟩)),
((aZ (ae 0))),
((.Compare a [op] [b] pos)),
((Shared.heap ⟨hp,g,d,tk,os⟩)),
(V-> List V->Hp->VK->Prop ),
(IsPair s.heap TI (.c i1) (.c i2)),
((bY ord)),
(["self","name","source"]),
(["_law_script","_law_k"]),
((yJ (ae 6) fj (dU (.a aR 2 1)))),
((fC (.tup [.int (0),.int (1)]))),
((.v 1 aj)),
((.Compare a [op,op'] [b,c] pos)),
((.BoolOp .And (a::b::rest) pos)),
(Result->Shared->Prop),
(List Env)])
 return a.raw[1][2*i][1]
local macro_rules|`(.$c:ident)=>do
 let some i:="e5 e6 e7 e8 e9 fa fb fc fd fe ff fg fi fj fk fm fo fq ft fu fv fw fx fy fz fA fB fC fD fE fF fG fH".splitOn.idxOf? c.getId.toString|Lean.Macro.throwUnsupported
 let a<-`([(FuncData),
(mg cx=some (.c C)),
(ly P w H h),
(Option Int),
(Loc X.env.scope x),
(List T->Option rh),
(["_law_name","_law_digits_here","_law_some"]),
((fun b o hb e=>kk b o (by simpa using hb) e)),
(⟨_,Heap.get?_push_size _ rfl,rfl,_,rfl⟩),
(["self","name","terms"]),
(["_law_part","_law_values","_law_due_here"]),
((if k=f then (k,v)::r else (k,x)::ku f v r)),
((gR.of (sm _ _ h1))),
((fun x=>some (T.str x))),
((fun t=>some (Sl.sh t))),
((bK (.a 3 4))),
((.type "BaseException")),
((.str (Str.ofString k))),
((.builtin "isinstance")),
(Dv ns ts val p.eyes),
([.type "object"]),
((aZ (cS [bW] "terms" (ae 0)))),
((.Call (.S m) (e::es) [] pos)),
((he Y0 Y9)),
(f τ=some (t,τ)),
([s .cy, some (.own []), none, none, none]),
((by rw [bO rfl jT lB,decide_eq_false hu])),
((.c it)),
([s (.j (lu t.1)),s (tx t.2)]),
((fC (.str "gain"))),
((by rw [e];exact True.intro)),
((aH (.s (jI (b:=1))) rfl jI)),
((.str x))])
 return a.raw[1][2*i][1]
local macro_rules|`(.$c:ident $x)=>do
 let some i:="a c e f h i j l m o p q r s t u v x y z B D G H I J L M O Q R S U V X Y Z aa ab ac ad ae af ag ah ai aj ak al am an ao ap aq ar au av aw ax ay az aA".splitOn.idxOf? c.getId.toString|Lean.Macro.throwUnsupported
 let a<-`([((aa $x  (pv $x))),
((.ref $x)),
((aM aN $x  aj (fun _ _ => rfl))),
((af (.a $x) ak)),
((ar bz (ae $x) (az $x))),
((false,eval $x  X.env)),
((.int $x)),
((aU (aG 0 $x  rfl .p) (aU (aG 1 $x  rfl .p) cO))),
((.e (ar aR (ao $x  (.c 0 (ar aR (az 4) (ae 9)))) (ar cG (az 7919) (ae 9))) (eR (ag (az 5) (ag (az 199) (ag (az 12) (ag (az 48) (ag (az 48) (ag (az 48) (ag (az 48) au)))))))))),
(⟨.type "type", none,.cls $x,#[none,none,some (.str "Part" 592),some (.str "Part" 600),some .ab,some .aw]⟩),
((uI sc L ns ts x3 (s p.law) (s p.obj) (s .ap) $x)),
((wpAny_bind (wpAny_onRaise (?_:wpAny _ _ (Builtin.SmallTypes.nextOf (.c $x) >>= _) _ _ _)))),
((ar aR (.a aR 2 1) (ae $x))),
((aH rfl rfl $x)),
((⟨.type "type", none,.cls $x,#[some (.c 22),none,some (.str "EchoError" 196),some (.str "EchoError" 204),some .ar,some .aw]⟩)),
((wpAny_bind $x)),
((some (.own $x))),
((segRun_of (congrFun $x  os))),
((some (.sh $x))),
((upd H s.heap.objs.size $x)),
((Heap.get?_push_of_some _ $x)),
((aw (aP $x))),
((.e (ao $x  (.c 0 (az 2))) (ar w6 (eR (ag (ao cn (bM 7)) au)) (ar aR (ar aR (ae 3) (ae 4)) (az 1))))),
((fun _ _ _ _ _ _=>(eA rfl $x  (bh (bh dX))))),
((List.mem_cons_of_mem _ $x)),
((some (.c $x))),
((aY dw rfl q13 zaw $x)),
((cS [q38, q39, q40, q41] "name" (ae $x))),
((fun _ _ _ _ _ _ => $x)),
((eval $x  X.env)),
((ao q130 (ag (ae $x) (ag (ae 0) (.o 1 2))))),
((.Attribute o $x  apos)),
((cz (SW.st (mw (.r (.a 1) bg) (jg (cM (.f q76 (.j (.a 2) aj)))))) (.D $x) bE)),
((wpAny_pure $x)),
((compareOp $x)),
((ar aR (ao $x  (.c 0 (ar aR (az 14) (ae 3)))) (ar cG (az 48271) (ae 3)))),
((fun _ _ _ _ _ _=>(iw $x))),
((ar uA (az 10) (az $x))),
((af $x  ak)),
((aA _ .bf $x)),
((gZ uz uz (az 1) (.h cn 0) (az $x))),
((dP Iz "wants" (ae $x) au)),
((bU hf_name (.a $x))),
((ag (ar bz (ae 6) (ar aR (.r 3) (ae 9))) $x)),
((.ins C dx $x)),
((.e (.a $x))),
((aL q122 hr rfl (af (.a 0) $x) (ah (ah aB)))),
((bF 1 [2] (aZ $x) (ai 0) (cw (.q (qu false) (ae 1))) (ae 0))),
((.lst (List.replicate k.toNat $x).flatten)),
((envOfC qual scope s.heap.objs.size f $x)),
((.bl (decide $x))),
((zab.mpr ⟨ $x,.aD⟩)),
((bQ gf rfl q12 rfl $x)),
((.cons $x  .nil)),
((cq (ao bN (.c $x  (fC (.ty "tuple")))))),
((vX sc c a b o m .cN (eP nm (a+1+b+k)) ts $x  x10 none)),
((Int.gcd $x  b:Nat)),
((Heap.get?_push_size _ $x)),
((if (S l).length≤sizeLine then some $x  else none)),
((ag $x  au)),
((gM zaV zaW jO jM bg $x)),
((.e (ao $x  (.c 0 (az 1))) (ar aR (.r 3) (ae 5))))])
 return a.raw[1][2*i][1]
local macro_rules|`(.$c:ident $x $y)=>do
 let some i:="a c e f h i j l m o p q r s t u v x y z B D G H I J L M O Q R S U V X Y".splitOn.idxOf? c.getId.toString|Lean.Macro.throwUnsupported
 let a<-`([((ay (ai $x) (ay (ai $y) bG))),
((ag (ae $x) (ag $y  au))),
((ag $x  (ag $y  au))),
((aL $x  hr rfl $y  (ah (ah aB)))),
((ao $x  (bM $y))),
((aY ny rfl q6 rfl (af (.a $x) (af (tQ rfl $y  rfl) ak)))),
((af $x  (af $y  ak))),
((gj (eU .ah (bU $x  (.a $y)) .O (aX _)) (jD (aL q131 hr rfl (af (.a $y) (af (.a 0) (af (.a 1) (.f 2)))) (ah (ah (ah .aq))))))),
((ao $x  (ag $y  au))),
((ag (ae $x) (bM $y))),
((aL $x  hr rfl (.f $y) .aq)),
((ar $x  (ae 0) $y)),
((bq .ah $x  $y  (aX _))),
(((bd.drop $x).take $y)),
((bq (lS hr.units) $x  $y  (aX _))),
((cw (ar eJ $x  $y))),
((aM aN (.a $x) $y  .v)),
((bF 1 [] (aZ $x) (ai 0) (cq $y) (ae 0))),
((af (cN (N':=["part"]) (no:=1) (cap:=[]) rfl rfl (bf rfl) rfl (cJ rfl) (cL (.a 2)) $x  $y  .aY) ak)),
((af (cN (N':=["part"]) (no:=1) (cap:=[]) rfl rfl (bf rfl) rfl (cJ rfl) (cL (.a 0)) $x  $y  .aY) ak)),
((fA [(q50,false),(q38,false), $x,(q40,false),(q41,false), $y,(q51,false)] (ae 0))),
((bZ $x  (bj $y) bH)),
((gm hr.units (.a 1) $x  $y)),
((aI $x  (.a $y) aj)),
((cM (jf $x  rfl q6 rfl $y  (.a 0)))),
((cz (SW.st $x) $y  bE)),
((bF 1 [] $x  (ai 0) aS $y)),
((upd (upd $x  dx (.own $y)) $y  (.ins C dx []))),
((aI bp $x  (.a $y))),
((ar $x  $y  (az 1))),
((field (.c $x) $y  >>= _)),
((bq tf $x  (eV rfl $y) (aX _))),
((.Subscript $x  $y  pos)),
((ar cG (ae $x) (.a bz 2 $y))),
((eA rfl (aU $x  $y) .bP)),
((some (.Name $x  $y)))])
 return a.raw[1][2*i][1]
local macro_rules|`(.$c:ident $x $y $z)=>do
 let some i:="a c".splitOn.idxOf? c.getId.toString|Lean.Macro.throwUnsupported
 let a<-`([((ar $x  (ae $y) (az $z))),
((ar $x  (ae $y) (ae $z)))])
 return a.raw[1][2*i][1]
local macro_rules|`($c:char $x)=>match c.getChar with|'0'=>`(some (.sh $x))|_=>Lean.Macro.throwUnsupported
set_option hygiene true
namespace My
open PySem PySem.Spec PyProof.Rows
def tp (i:Nat):Stmt:=PySem.Challenge.pw_echohouse_k22_parts_tell.main.body.getD i (.Pass ⟨0,0,0,0⟩)
def hA (s:Stmt):Arguments:=match s with
 | .FunctionDef _ a _ _ _ _ _ _ _ _=>a
 |_=>⟨[],[],none,[],[],none,[]⟩
def hB (s:Stmt):List Stmt:=match s with
 | .FunctionDef _ _ b _ _ _ _ _ _ _=>b
 |_=>[]
def hS (s:Stmt):Scope:=match s with
 | .FunctionDef _ _ _ _ _ _ sc _ _ _=>sc
 |_=>{ kind:=.function,names:=[],isGenerator:=false,isCoroutine:=false }
def tc (i j:Nat):Stmt:=match tp i with
 | .ClassDef _ _ _ body _ _ _ _ _ _ _=>body.getD j (.Pass ⟨0,0,0,0⟩)
 |_=>.Pass ⟨0,0,0,0⟩
abbrev pg:Program:=PySem.Challenge.pw_echohouse_k22_parts_tell
abbrev lw:PySem.W.OpenLaw:=PySem.Challenge.rw_echohouse_k22_parts_tell
def qv:Program:={ pg with main:={ pg.main with body:=([0,2,3,4,5,6,7,8,9,11,12,13,14,15,16,17,18,20,21,22,23,24,25,26,27,28,29,30,32,33,34,35,36,37,39,40,41,42,43,44,45,46,47,48,49,50,51,52,53,54,55,56,57,58,59,60,61,63,64,65,66,67,68,69,70,71,72,73,74,75,76,77,78,79]:List Nat).map tp } }
def cf:Str := "/claim/cut.py"
def RG (nm qn:Str)(t l n k:Nat)(a b c d e:Value):Obj:=⟨.type "code", none,.fields #[.str nm t,.str qn (t+1),.str cf (t+2),.int l 0,.int n 0,.int 0 0,.int 0 0,.int 3 0,a,.bool true,.int 181 0,b,.none,c,d,e,.int k 0,.int l 0,.str cf (k+1)],#[]⟩
def rG (c:Nat)(nm qn:Str)(t l n k:Nat):Obj:=RG nm qn t l n k (.c (c-5)) (.c (c-4)) (.c (c-3)) (.c (c-2)) (.c (c-1))
def NM (c:Nat)(nm qn:Str)(t l n k:Nat):Obj:=RG nm qn t l n k (.c (c-3)) (.c (c-2)) .none .none (.c (c-1))
def cA (c:Nat)(nm:Str)(t l n k:Nat):Obj:=rG c nm nm t l n k
def cB (c:Nat)(nm:Str)(t l n k:Nat):Obj:=NM c nm nm t l n k
def pF (s:Stmt)(nm qn:Str)(pm:Value)(c:Addr):Obj:=⟨.type "function", none,.func (PySem.W.fnOf nm qn (hA s) (hB s) (hS s) .none .none .none pm none (.c c) .none),#[]⟩
def fh (s:Stmt)(nm:Str)(pm:Value)(c:Addr):Obj:=pF s nm nm pm c
def de (P:Params)(x:Str)(t:Tok)(v:Value):DictEntry:=⟨PyData.keyHash P x,.str x t,v⟩
def lP:Value:=.str "law_echohouse_k22_parts_tell" 1086
def jd:Value:=.str "echohouse.parts" 590
def yL:Value:=.str "echohouse.fracs" 503
def P7:Value:=.str "echohouse.divisors" 418
def ql:Value:=.str "echohouse.wiring" 871
def d3 (P:Params):List DictEntry:=[de P "__name__" 165 .B,de P "__doc__" 166 .dF,de P "__package__" 167 .dF,de P "__loader__" 168 (.builtin "__main__.__loader__#opaque"),de P "__spec__" 169 .dF,de P "__annotations__" 170 (.c 6),de P "__builtins__" 171 (.c 4),de P "__file__" 173 (.str "/claim/cut.py" 172),de P "__cached__" 174 .dF,de P "_wall" 193 (.c 21),de P "EchoError" 220 (.c 38),de P "NoFraction" 243 (.c 58),de P "NoFit" 266 (.c 77),de P "TooMany" 289 (.c 96),de P "NoText" 321 (.c 122),de P "NoPart" 353 (.c 148),de P "Twice" 385 (.c 174),de P "Ring" 417 (.c 200),de P "SHORT" 421 (.int (4000) 420),de P "SHORT_HALF" 423 (.int (256) 422),de P "common" 432 (.c 209),de P "half" 444 (.c 216),de P "stepped" 454 (.c 223),de P "step" 469 (.c 230),de P "upper_half" 486 (.c 237),de P "factors_joined" 502 (.c 244),de P "NOUGHT" 507 (.c 245),de P "MOST_FIGURES" 509 (.int (30) 508),de P "is_whole" 516 (.c 252),de P "is_fraction" 525 (.c 259),de P "plus" 536 (.c 266),de P "minus" 544 (.c 273),de P "times" 554 (.c 280),de P "show_frac" 563 (.c 287),de P "figures" 572 (.c 294),de P "read_frac" 583 (.c 301),de P "is_figures" 589 (.c 306),de P "Part" 633 (.c 337),de P "In" 673 (.c 372),de P "Cell" 722 (.c 412),de P "Gain" 773 (.c 452),de P "Sum" 823 (.c 488),de P "Out" 870 (.c 528),de P "LETTERS" 874 (.str "abcdefghijklmnopqrstuvwxyz" 873),de P "LONGEST_NAME" 876 (.int (8) 875),de P "MOST_TERMS" 878 (.int (4) 877),de P "GREATEST_TOP" 880 (.int (99) 879),de P "GREATEST_BOTTOM" 882 (.int (12) 881),de P "MOST_ROWS" 884 (.int (24) 883),de P "MOST_CELLS" 886 (.int (4) 885),de P "MOST_LINES" 888 (.int (2) 887),de P "Wiring" 979 (.c 599),de P "read_parts" 990 (.c 610),de P "read_part" 999 (.c 617),de P "read_gain" 1009 (.c 624),de P "read_factor" 1017 (.c 631),de P "read_sum" 1023 (.c 636),de P "are_names" 1029 (.c 641),de P "is_name" 1035 (.c 646),de P "refuse_names" 1045 (.c 653),de P "refuse_counts" 1051 (.c 658),de P "in_order" 1057 (.c 663),de P "free_names" 1063 (.c 668),de P "least_ring" 1073 (.c 675),de P "ring_from" 1079 (.c 680),de P "steps_back" 1085 (.c 685),de P "_law_cell" 1095 (.c 692),de P "_law_digits" 1106 (.c 699),de P "_law_mixed" 1117 (.c 706),de P "_law_drawn" 1123 (.c 711),de P "_law_names" 1129 (.c 716),de P "_law_frac" 1139 (.c 723),de P "_law_inner" 1150 (.c 730),de P "_law_parts" 1156 (.c 735),de P "_law_laid" 1162 (.c 740),de P "_law_frac_text" 1169 (.c 747),de P "_law_row" 1175 (.c 752),de P "_law_text" 1181 (.c 757),de P "_law_value" 1189 (.c 764),de P "_law_due" 1202 (.c 771),de P "_law_made_good" 1208 (.c 776),de P "_law_by_hand" 1222 (.c 783),de P "law" 1237 (.c 790)]
def kk (P:Params):PySem.W.Frag:=[
(3,⟨.type "dict", none,.dict (d3 P).toArray 83,#[]⟩),
(37,⟨.type "dict", none,.dict #[de P "__module__" 203 .t,de P "__firstlineno__" 207 (.int (5) 206),de P "word" 214 (.c 35),de P "__static_attributes__" 215 (.c 36),de P "__weakref__" 217 (.c 39),de P "__doc__" 218 .dF] 3,#[]⟩),
(38,⟨.type "type", none,.cls ⟨"EchoError", [.type "ValueError"],.au,37,"EchoError", true,[],[.ref 58,.ref 77,.ref 96,.ref 122,.ref 148,.ref 174,.ref 200],false,none,false⟩,#[some (.c 22),none,some (.str "EchoError" 196),some (.str "EchoError" 204),some .ar,some .aw]⟩),
(57,⟨.type "dict", none,.dict #[de P "__module__" 228 .t,de P "__firstlineno__" 232 (.int (9) 231),de P "word" 239 (.c 55),de P "__static_attributes__" 240 (.c 56),de P "__doc__" 241 .dF] 2,#[]⟩),
(58,⟨.type "type", none,.cls ⟨"NoFraction", [.ref 38],[.ref 58,.ref 38,.type "ValueError", .type "Exception", .type "BaseException", .type "object"],57,"NoFraction", true,[],[],false,none,false⟩,#[some (.c 42),none,some (.str "NoFraction" 221),some (.str "NoFraction" 229),some .ar,some .aw]⟩),
(208,cA 208 "common" 424 52 2 430),
(209,fh (tp 13) "common" P7 208),
(215,cA 215 "half" 433 61 2 442),
(216,fh (tp 14) "half" P7 215),
(245,.cY),
(251,cA 251 "is_whole" 510 98 1 514),
(252,fh (tp 22) "is_whole" yL 251),
(258,cA 258 "is_fraction" 517 100 1 523),
(259,fh (tp 23) "is_fraction" yL 258),
(265,cA 265 "plus" 526 105 2 534),
(266,fh (tp 24) "plus" yL 265),
(272,cA 272 "minus" 537 110 2 542),
(273,fh (tp 25) "minus" yL 272),
(279,cA 279 "times" 545 112 2 552),
(280,fh (tp 26) "times" yL 279),
(286,cA 286 "show_frac" 555 116 1 561),
(287,fh (tp 27) "show_frac" yL 286),
(293,cA 293 "figures" 564 122 1 570),
(294,fh (tp 28) "figures" yL 293),
(300,cA 300 "read_frac" 573 129 1 581),
(301,fh (tp 29) "read_frac" yL 300),
(305,cB 305 "is_figures" 584 141 1 587),
(306,fh (tp 30) "is_figures" yL 305),
(319,rG 319 "row" "Part.row" 604 146 1 608),
(320,pF (tc 32 0) "row" "Part.row" jd 319),
(326,rG 326 "wants" "Part.wants" 611 149 1 615),
(327,pF (tc 32 1) "wants" "Part.wants" jd 326),
(333,rG 333 "tells" "Part.tells" 618 152 2 623),
(334,pF (tc 32 2) "tells" "Part.tells" jd 333),
(336,⟨.type "dict", none,.dict #[de P "__module__" 599 .o,de P "__firstlineno__" 603 (.int (144) 602),de P "row" 610 (.c 320),de P "wants" 617 (.c 327),de P "tells" 625 (.c 334),de P "__static_attributes__" 626 (.c 335),de P "__dict__" 628 (.c 338),de P "__weakref__" 630 (.c 339),de P "__doc__" 631 .dF] 4,#[]⟩),
(337,(.o ⟨"Part", .fv,.eN,336,"Part", true,[],[.ref 372,.ref 412,.ref 452,.ref 488,.ref 528],false,none,false⟩)),
(354,rG 354 "__init__" "In.__init__" 646 156 2 651),
(355,pF (tc 33 0) "__init__" "In.__init__" jd 354),
(361,rG 361 "row" "In.row" 654 159 1 658),
(362,pF (tc 33 1) "row" "In.row" jd 361),
(368,rG 368 "tells" "In.tells" 661 162 2 666),
(369,pF (tc 33 2) "tells" "In.tells" jd 368),
(371,⟨.type "dict", none,.dict #[de P "__module__" 641 .o,de P "__firstlineno__" 645 (.int (154) 644),de P "__init__" 653 (.c 355),de P "row" 660 (.c 362),de P "tells" 668 (.c 369),de P "__static_attributes__" 670 (.c 370),de P "__doc__" 671 .dF] 2,#[]⟩),
(372,⟨.type "type", none,.cls ⟨"In", [.ref 337],[.ref 372,.ref 337,.type "object"],371,"In", true,[],[],false,none,false⟩,#[some (.c 342),none,some (.str "In" 634),some (.str "In" 642),some .ab,some .aw]⟩),
(387,rG 387 "__init__" "Cell.__init__" 686 166 3 692),
(388,pF (tc 34 0) "__init__" "Cell.__init__" jd 387),
(394,rG 394 "row" "Cell.row" 695 170 1 699),
(395,pF (tc 34 1) "row" "Cell.row" jd 394),
(401,rG 401 "wants" "Cell.wants" 702 173 1 706),
(402,pF (tc 34 2) "wants" "Cell.wants" jd 401),
(408,rG 408 "tells" "Cell.tells" 709 176 2 714),
(409,pF (tc 34 3) "tells" "Cell.tells" jd 408),
(411,⟨.type "dict", none,.dict #[de P "__module__" 681 .o,de P "__firstlineno__" 685 (.int (164) 684),de P "__init__" 694 (.c 388),de P "row" 701 (.c 395),de P "wants" 708 (.c 402),de P "tells" 716 (.c 409),de P "__static_attributes__" 719 (.c 410),de P "__doc__" 720 .dF] 2,#[]⟩),
(412,⟨.type "type", none,.cls ⟨"Cell", [.ref 337],[.ref 412,.ref 337,.type "object"],411,"Cell", true,[],[],false,none,false⟩,#[some (.c 375),none,some (.str "Cell" 674),some (.str "Cell" 682),some .ab,some .aw]⟩),
(427,rG 427 "__init__" "Gain.__init__" 735 180 4 742),
(428,pF (tc 35 0) "__init__" "Gain.__init__" jd 427),
(434,rG 434 "row" "Gain.row" 745 185 1 749),
(435,pF (tc 35 1) "row" "Gain.row" jd 434),
(441,rG 441 "wants" "Gain.wants" 752 188 1 756),
(442,pF (tc 35 2) "wants" "Gain.wants" jd 441),
(448,rG 448 "tells" "Gain.tells" 759 191 2 764),
(449,pF (tc 35 3) "tells" "Gain.tells" jd 448),
(451,⟨.type "dict", none,.dict #[de P "__module__" 730 .o,de P "__firstlineno__" 734 (.int (178) 733),de P "__init__" 744 (.c 428),de P "row" 751 (.c 435),de P "wants" 758 (.c 442),de P "tells" 766 (.c 449),de P "__static_attributes__" 770 (.c 450),de P "__doc__" 771 .dF] 2,#[]⟩),
(452,⟨.type "type", none,.cls ⟨"Gain", [.ref 337],[.ref 452,.ref 337,.type "object"],451,"Gain", true,[],[],false,none,false⟩,#[some (.c 415),none,some (.str "Gain" 723),some (.str "Gain" 731),some .ab,some .aw]⟩),
(467,rG 467 "__init__" "Sum.__init__" 786 195 3 792),
(468,pF (tc 36 0) "__init__" "Sum.__init__" jd 467),
(472,NM 472 "row" "Sum.row" 795 199 1 798),
(473,pF (tc 36 1) "row" "Sum.row" jd 472),
(477,NM 477 "wants" "Sum.wants" 801 202 1 804),
(478,pF (tc 36 2) "wants" "Sum.wants" jd 477),
(484,rG 484 "tells" "Sum.tells" 807 205 2 815),
(485,pF (tc 36 3) "tells" "Sum.tells" jd 484),
(487,⟨.type "dict", none,.dict #[de P "__module__" 781 .o,de P "__firstlineno__" 785 (.int (193) 784),de P "__init__" 794 (.c 468),de P "row" 800 (.c 473),de P "wants" 806 (.c 478),de P "tells" 817 (.c 485),de P "__static_attributes__" 820 (.c 486),de P "__doc__" 821 .dF] 2,#[]⟩),
(488,⟨.type "type", none,.cls ⟨"Sum", [.ref 337],[.ref 488,.ref 337,.type "object"],487,"Sum", true,[],[],false,none,false⟩,#[some (.c 455),none,some (.str "Sum" 774),some (.str "Sum" 782),some .ab,some .aw]⟩),
(503,rG 503 "__init__" "Out.__init__" 836 212 2 841),
(504,pF (tc 37 0) "__init__" "Out.__init__" jd 503),
(510,rG 510 "row" "Out.row" 844 215 1 848),
(511,pF (tc 37 1) "row" "Out.row" jd 510),
(517,rG 517 "wants" "Out.wants" 851 218 1 855),
(518,pF (tc 37 2) "wants" "Out.wants" jd 517),
(524,rG 524 "tells" "Out.tells" 858 221 2 863),
(525,pF (tc 37 3) "tells" "Out.tells" jd 524),
(527,⟨.type "dict", none,.dict #[de P "__module__" 831 .o,de P "__firstlineno__" 835 (.int (210) 834),de P "__init__" 843 (.c 504),de P "row" 850 (.c 511),de P "wants" 857 (.c 518),de P "tells" 865 (.c 525),de P "__static_attributes__" 867 (.c 526),de P "__doc__" 868 .dF] 2,#[]⟩),
(528,⟨.type "type", none,.cls ⟨"Out", [.ref 337],[.ref 528,.ref 337,.type "object"],527,"Out", true,[],[],false,none,false⟩,#[some (.c 491),none,some (.str "Out" 824),some (.str "Out" 832),some .ab,some .aw]⟩),
(541,NM 541 "__init__" "Wiring.__init__" 901 234 2 904),
(542,pF (tc 47 0) "__init__" "Wiring.__init__" ql 541),
(555,rG 555 "parts" "Wiring.parts" 914 248 1 918),
(556,pF (tc 47 2) "parts" "Wiring.parts" ql 555),
(598,⟨.type "dict", none,.dict #[de P "__module__" 896 .H,de P "__firstlineno__" 900 (.int (232) 899),de P "__init__" 906 (.c 542),de P "text" 913 (.c 549),de P "parts" 920 (.c 556),de P "ins" 927 (.c 563),de P "outs" 934 (.c 570),de P "cell_names" 941 (.c 577),de P "order" 947 (.c 582),de P "run" 956 (.c 589),de P "values_at" 965 (.c 596),de P "__static_attributes__" 972 (.c 597),de P "__dict__" 974 (.c 600),de P "__weakref__" 976 (.c 601),de P "__doc__" 977 .dF] 4,#[]⟩),
(599,⟨.type "type", none,.cls ⟨"Wiring", .fv,[.ref 599,.type "object"],598,"Wiring", true,[],[],false,none,false⟩,#[none,none,some (.str "Wiring" 889),some (.str "Wiring" 897),some .ab,some .aw]⟩),
(609,cA 609 "read_parts" 980 268 1 988),
(610,fh (tp 48) "read_parts" ql 609),
(616,cA 616 "read_part" 991 276 1 997),
(617,fh (tp 49) "read_part" ql 616),
(623,cA 623 "read_gain" 1000 289 3 1007),
(624,fh (tp 50) "read_gain" ql 623),
(630,cA 630 "read_factor" 1010 292 1 1015),
(631,fh (tp 51) "read_factor" ql 630),
(635,cB 635 "read_sum" 1018 298 2 1021),
(636,fh (tp 52) "read_sum" ql 635),
(640,cB 640 "are_names" 1024 301 2 1027),
(641,fh (tp 53) "are_names" ql 640),
(645,cB 645 "is_name" 1030 303 1 1033),
(646,fh (tp 54) "is_name" ql 645),
(652,cA 652 "refuse_names" 1036 305 1 1043),
(653,fh (tp 55) "refuse_names" ql 652),
(657,cB 657 "refuse_counts" 1046 316 1 1049),
(658,fh (tp 56) "refuse_counts" ql 657),
(662,cB 662 "in_order" 1052 324 1 1055),
(663,fh (tp 57) "in_order" ql 662),
(667,cB 667 "free_names" 1058 335 2 1061),
(668,fh (tp 58) "free_names" ql 667),
(691,cA 691 "_law_cell" 1088 359 2 1093),
(692,fh (tp 63) "_law_cell" lP 691),
(698,cA 698 "_law_digits" 1096 363 2 1104),
(699,fh (tp 64) "_law_digits" lP 698),
(705,cA 705 "_law_mixed" 1107 370 2 1115),
(706,fh (tp 65) "_law_mixed" lP 705),
(710,cB 710 "_law_drawn" 1118 377 2 1121),
(711,fh (tp 66) "_law_drawn" lP 710),
(715,cB 715 "_law_names" 1124 381 2 1127),
(716,fh (tp 67) "_law_names" lP 715),
(722,cA 722 "_law_frac" 1130 391 2 1137),
(723,fh (tp 68) "_law_frac" lP 722),
(729,cA 729 "_law_inner" 1140 396 3 1148),
(730,fh (tp 69) "_law_inner" lP 729),
(734,cB 734 "_law_parts" 1151 403 1 1154),
(735,fh (tp 70) "_law_parts" lP 734),
(739,cB 739 "_law_laid" 1157 419 2 1160),
(740,fh (tp 71) "_law_laid" lP 739),
(746,cA 746 "_law_frac_text" 1163 424 1 1167),
(747,fh (tp 72) "_law_frac_text" lP 746),
(751,cB 751 "_law_row" 1170 428 1 1173),
(752,fh (tp 73) "_law_row" lP 751),
(756,cB 756 "_law_text" 1176 434 1 1179),
(757,fh (tp 74) "_law_text" lP 756),
(763,cA 763 "_law_value" 1182 436 1 1187),
(764,fh (tp 75) "_law_value" lP 763),
(770,cA 770 "_law_due" 1190 442 2 1200),
(771,fh (tp 76) "_law_due" lP 770),
(775,cB 775 "_law_made_good" 1203 456 4 1206),
(776,fh (tp 77) "_law_made_good" lP 775),
(782,cA 782 "_law_by_hand" 1209 465 3 1220),
(783,fh (tp 78) "_law_by_hand" lP 782),
(789,cA 789 "law" 1223 482 1 1235),
(790,fh (tp 79) "law" lP 789)]
def ka:List Addr:=[3,37,38,57,58,208,209,215,216,245,251,252,258,259,265,266,272,273,279,280,286,287,293,294,300,301,305,306,319,320,326,327,333,334,336,337,354,355,361,362,368,369,371,372,387,388,394,395,401,402,408,409,411,412,427,428,434,435,441,442,448,449,451,452,467,468,472,473,477,478,484,485,487,488,503,504,510,511,517,518,524,525,527,528,541,542,555,556,598,599,609,610,616,617,623,624,630,631,635,636,640,641,645,646,652,653,657,658,662,663,667,668,691,692,698,699,705,706,710,711,715,716,722,723,729,730,734,735,739,740,746,747,751,752,756,757,763,764,770,771,775,776,782,783,789,790]
theorem Sf (P:Params):ka=(kk P).map (·.1):=.a
abbrev hk:PySem.W.Hook:=PySem.W.kHook kk ka Sf
noncomputable abbrev xt (s:Shared):Bool:=PySem.W.xlAt qv [] s&&PySem.W.recOk (PySem.W.RowW.records lw.row.toRowW) s
open PySem.W PySem.Calls in
def pf (tb:String->Option Builtin)(p:.am)(w:World)(Y7:Nat)(ann:.dI):Nat->SharedT->Thread->Option SharedT
 |0,_,_=>none
 |n+1,s,t=>match through t with
  |true=>some s
  |false=>match stepOk Y7 ann t with
   |false=>none
   |true=>match stepT (denote tb) p w s t with
    |some (s',t')=>pf tb p w Y7 ann n s' t'
    |none=>none
open PySem.W PySem.Calls in
theorem wo {tb:String->Option Builtin}{p:.am}{w:World}{Y7:Nat}{ann:.dI}:∀{n:Nat} {s:SharedT} {t:Thread} {r:SharedT},pf tb p w Y7 ann n s t=some r->topRun tb p w Y7 ann n s.abs t=some r.abs
 |0,_,_,_,e=>by simp [pf] at e
 |n+1,s,t,r,e=>by
  rw [pf] at e
  rw [topRun]
  cases h1:through t with
  |true=>rw [h1] at e;cases e;rfl
  |false =>
   rw [h1] at e
   dsimp only at e ⊢
   cases h2:stepOk Y7 ann t with
   |false=>rw [h2] at e;cases e
   |true =>
    rw [h2] at e
    dsimp only at e ⊢
    cases h3:stepT (denote tb) p w s t with
    |none=>rw [h3] at e;cases e
    |some x =>
     obtain⟨s',t'⟩:=x
     rw [h3] at e
     rw [stepT_spec h3]
     exact wo e
open PySem.W PySem.Calls in
def PZ (tb:String->Option Builtin)(p:.am)(w:World)(Y7:Nat)(ann:.dI):Nat->SharedT->Thread->Option (SharedT×Thread)
 |0,s,t=>some (s,t)
 |n+1,s,t=>match through t with
  |true=>none
  |false=>match stepOk Y7 ann t with
   |false=>none
   |true=>match stepT (denote tb) p w s t with
    |some (s',t')=>PZ tb p w Y7 ann n s' t'
    |none=>none
open PySem.W PySem.Calls in
theorem Gu {tb:String->Option Builtin}{p:.am}{w:World}{Y7:Nat}{ann:.dI}:∀{n:Nat} {s s':SharedT} {t t':Thread},PZ tb p w Y7 ann n s t=some (s',t')->topGo tb p w Y7 ann n s.abs t=some (s'.abs,t')
 |0,_,_,_,_,e=>by cases e;rfl
 |n+1,s,s',t,t',e=>by
  rw [PZ] at e
  rw [topGo]
  cases h1:through t with
  |true=>rw [h1] at e;cases e
  |false =>
   rw [h1] at e
   dsimp only at e ⊢
   cases h2:stepOk Y7 ann t with
   |false=>rw [h2] at e;cases e
   |true =>
    rw [h2] at e
    dsimp only at e ⊢
    cases h3:stepT (denote tb) p w s t with
    |none=>rw [h3] at e;cases e
    |some x =>
     obtain⟨s2,t2⟩:=x
     rw [h3] at e
     rw [stepT_spec h3]
     exact Gu e
def alts {α:Type}:Bool->List α->List α
 |_,[]=>[]
 |true,a::l=>a::alts false l
 |false,_::l=>alts true l
def B3:Nat->List Obj->PySem.W.BT
 |0,_=>.nil
 |_+1,[]=>.nil
 |n+1,o::l=>.node o (B3 n (alts true l)) (B3 n (alts false l))
def bol (P:Params):List Obj:=(PySem.W.boot_heap P).objs.toList
open PySem.W PySem.Calls in
theorem Oz {p q:.am}{loose:.Y}{Xt:Shared->Bool}{α:Type}{Yf:Shared->α}{Ya:World->α}{N n k M:Nat}{g0:Bool}{T:Params->BT}(he:opening p=plainProg p.main.scope.names)(hN:Nat.ble 600 N=true)(hf:∀s,fenceModules? p s=some s)
  (hz:∀w:World,((boot_heap w.params).isNs mainGlobals&&(Array.mk []:Array GenState).size == 0,(boot_heap w.params).objs.size,(boot_heap w.params).nsMap mainGlobals "__annotations__")=(true,11,some (.c 6)))
  (hr:∀(w:World) (os:OsState),topRun treeTable p w 11 (.J 6) M ⟨boot_heap w.params,Array.mk [],boot_drawn,boot_toks,os⟩ (topStub p)=some .a5) (le:Nat.ble M N=true)
  (g1:∀w:World,(fun os:OsState=>staticsOk (importedModules p.main.body) (boot_heap w.params) (absHeap (T w.params) n {})&&namesBound p (absHeap (T w.params) n {})&&gensDone .a5&&laidKept (boot_heap w.params) (absHeap (T w.params) n {}))=fun _=>true)
  (g2:∀w:World,(fun os:OsState=>(openSeen q loose (importedModules p.main.body) Xt g0 .a5).1)=fun _=>(openGood q loose).1)
  (g4:∀w:World,(fun os:OsState=>(openSeen q loose (importedModules p.main.body) Xt g0 .a5).2)=fun _=>(openGood q loose).2)
  (g3:∀w:World,(fun os:OsState=>Yf .a5)=fun _=>Ya w):
  LeftO p q loose Xt Yf Ya N g0:=
 LeftO.of_pieces (H₀:=fun P=>boot_heap P) (H₁:=fun P=>absHeap (T P) n {}) (gs₀:=Array.mk []) (gs₁:=Array.mk []) (fun w=>boot_open he hN hf w) hz hr le fun w=>by
  funext os
  exact Prod.ext (congrFun (g1 w) os) (Prod.ext (Prod.ext (congrFun (g2 w) os) (congrFun (g4 w) os)) (congrFun (g3 w) os))
def RI (s:Stmt)(nm qn:Str):Obj:=⟨.none,none,.func ⟨nm,qn,hA s,.stmts (hB s),hS s,0,[],.none,.none,.none,.none,none,.none,.none,0⟩,#[]⟩
def oT (vs:.X):Obj:=⟨.type "tuple", none,.seq vs.toArray 0,#[]⟩
def oF:Obj:=⟨.none,none,.fields #[],#[]⟩
def Qf:Nat->List Str->List Value
 |_,[]=>[]
 |t,x::l=>.str x t::Qf (t+1) l
def gA (a:Nat)(s:Stmt)(nm qn:Str)(t l n:Nat)(vs:.Y)(pm:Value):List Obj:=[oT [],oF,oT (Qf (t+3) vs),oT [],RI s nm qn,rG (a+5) nm qn t l n (t+3+vs.length),pF s nm qn pm (a+5)]
def gB (a:Nat)(s:Stmt)(nm qn:Str)(t l n:Nat)(pm:Value):List Obj:=[oT [],oF,RI s nm qn,NM (a+3) nm qn t l n (t+3),pF s nm qn pm (a+3)]
def Qg:List (Nat×Nat×Nat):=[(1,0,20),(5,0,27),(9,0,47),(13,0,66),(17,0,85),(21,0,104),(28,0,130),(35,0,156),(42,0,182),(52,0,208),(61,0,215),(72,0,222),(77,0,229),(81,0,236),(91,0,243),(98,0,251),(100,0,258),(105,0,265),(110,0,272),(112,0,279),(116,0,286),(122,0,293),(129,0,300),(141,0,305),(144,0,312),(154,0,347),(164,0,380),(178,0,420),(193,0,460),(210,0,496),(232,0,536),(268,0,609),(276,0,616),(289,0,623),(292,0,630),(298,0,635),(301,0,640),(303,0,645),(305,0,652),(316,0,657),(324,0,662),(335,0,667),(337,0,674),(344,0,679),(352,0,684),(359,0,691),(363,0,698),(370,0,705),(377,0,710),(381,0,715),(391,0,722),(396,0,729),(403,0,734),(419,0,739),(424,0,746),(428,0,751),(434,0,756),(436,0,763),(442,0,770),(456,0,775),(465,0,782),(482,0,789)]
def Ey (k:Nat):Obj:=⟨.none,none,.fields ((Qg.take k).flatMap fun z=>[.int z.1 0,.int z.2.1 0,.ref z.2.2]).toArray,#[]⟩
def o3 (P:Params)(e n:Nat)(v:Value):Obj:=⟨.type "dict", none,.dict (match d3 P with | []=>[] | z::l=>((⟨z.hash,z.key,v⟩:DictEntry)::l).take e).toArray n,#[]⟩
def ob (P:Params):List Obj:=bol P++([.a7,
⟨.none,none,.fields #[.int (1) 0,.int (0) 0,.ref 20,.int (5) 0,.int (0) 0,.ref 27,.int (9) 0,.int (0) 0,.ref 47,.int (13) 0,.int (0) 0,.ref 66,.int (17) 0,.int (0) 0,.ref 85,.int (21) 0,.int (0) 0,.ref 104,.int (28) 0,.int (0) 0,.ref 130,.int (35) 0,.int (0) 0,.ref 156,.int (42) 0,.int (0) 0,.ref 182,.int (52) 0,.int (0) 0,.ref 208,.int (61) 0,.int (0) 0,.ref 215,.int (72) 0,.int (0) 0,.ref 222,.int (77) 0,.int (0) 0,.ref 229,.int (81) 0,.int (0) 0,.ref 236,.int (91) 0,.int (0) 0,.ref 243,.int (98) 0,.int (0) 0,.ref 251,.int (100) 0,.int (0) 0,.ref 258,.int (105) 0,.int (0) 0,.ref 265,.int (110) 0,.int (0) 0,.ref 272,.int (112) 0,.int (0) 0,.ref 279,.int (116) 0,.int (0) 0,.ref 286,.int (122) 0,.int (0) 0,.ref 293,.int (129) 0,.int (0) 0,.ref 300,.int (141) 0,.int (0) 0,.ref 305,.int (144) 0,.int (0) 0,.ref 312,.int (154) 0,.int (0) 0,.ref 347,.int (164) 0,.int (0) 0,.ref 380,.int (178) 0,.int (0) 0,.ref 420,.int (193) 0,.int (0) 0,.ref 460,.int (210) 0,.int (0) 0,.ref 496,.int (232) 0,.int (0) 0,.ref 536,.int (268) 0,.int (0) 0,.ref 609,.int (276) 0,.int (0) 0,.ref 616,.int (289) 0,.int (0) 0,.ref 623,.int (292) 0,.int (0) 0,.ref 630,.int (298) 0,.int (0) 0,.ref 635,.int (301) 0,.int (0) 0,.ref 640,.int (303) 0,.int (0) 0,.ref 645,.int (305) 0,.int (0) 0,.ref 652,.int (316) 0,.int (0) 0,.ref 657,.int (324) 0,.int (0) 0,.ref 662,.int (335) 0,.int (0) 0,.ref 667,.int (337) 0,.int (0) 0,.ref 674,.int (344) 0,.int (0) 0,.ref 679,.int (352) 0,.int (0) 0,.ref 684,.int (359) 0,.int (0) 0,.ref 691,.int (363) 0,.int (0) 0,.ref 698,.int (370) 0,.int (0) 0,.ref 705,.int (377) 0,.int (0) 0,.ref 710,.int (381) 0,.int (0) 0,.ref 715,.int (391) 0,.int (0) 0,.ref 722,.int (396) 0,.int (0) 0,.ref 729,.int (403) 0,.int (0) 0,.ref 734,.int (419) 0,.int (0) 0,.ref 739,.int (424) 0,.int (0) 0,.ref 746,.int (428) 0,.int (0) 0,.ref 751,.int (434) 0,.int (0) 0,.ref 756,.int (436) 0,.int (0) 0,.ref 763,.int (442) 0,.int (0) 0,.ref 770,.int (456) 0,.int (0) 0,.ref 775,.int (465) 0,.int (0) 0,.ref 782,.int (482) 0,.int (0) 0,.ref 789],#[]⟩,
⟨.type "code", none,.fields #[.str "<module>" 182,.str "<module>" 183,.str "/claim/cut.py" 184,.int (1) 0,.int (0) 0,.int (0) 0,.int (0) 0,.int (0) 0,.ref 11,.bool false,.int (181) 0,.ref 12,.none,.none,.none,.none,.int (185) 0,.int (1) 0,.str "/claim/cut.py" 186],#[]⟩,
⟨.type "frame", none,.plain,#[some (.c 13),some (.c 3),some (.c 3),none,some (.str "__main__" 164),none,some (.c 0)]⟩] ++
 (gA 15 (tp 0) "_wall" "_wall" 187 1 1 ["k"] (.str "__main__" 164) ++
 ([⟨.type "tuple", none,.seq #[.type "ValueError"] 0,#[]⟩,
⟨.type "builtin_function_or_method", none,.fields #[.builtin "type.__prepare__", .type "type"],#[]⟩,
⟨.type "dict", none,.dict #[de P "__module__" 203 .t,de P "__qualname__" 205 (.str "EchoError" 204),de P "__firstlineno__" 207 (.int (5) 206),de P "word" 214 (.c 35),de P "__static_attributes__" 215 (.c 36)] 5,#[]⟩,
⟨.type "tuple", none,.seq #[] 0,#[]⟩,
⟨.none,none,.fields #[.int (7) 0,.int (4) 0,.ref 34],#[]⟩,
⟨.type "code", none,.fields #[.str "EchoError" 198,.str "EchoError" 199,.str "/claim/cut.py" 200,.int (5) 0,.int (0) 0,.int (0) 0,.int (0) 0,.int (0) 0,.ref 25,.bool false,.int (181) 0,.ref 26,.none,.none,.none,.none,.int (201) 0,.int (5) 0,.str "/claim/cut.py" 202],#[]⟩,
⟨.type "frame", none,.plain,#[some (.c 27),some (.c 3),some (.c 24),none,some .t,none,some (.c 0)]⟩] ++
 (gA 29 (tc 2 0) "word" "EchoError.word" 208 7 1 .an .t ++
 ([.a7,
⟨.type "dict", none,.dict #[de P "__module__" 203 .t,de P "__firstlineno__" 207 (.int (5) 206),de P "word" 214 (.c 35),de P "__static_attributes__" 215 (.c 36),de P "__weakref__" 217 (.c 39),de P "__doc__" 218 .dF] 3,#[]⟩,
⟨.type "type", none,.cls ⟨"EchoError", [.type "ValueError"],.au,37,"EchoError", true,[],[.ref 58,.ref 77,.ref 96,.ref 122,.ref 148,.ref 174,.ref 200],false,none,false⟩,#[some (.c 22),none,some (.str "EchoError" 196),some (.str "EchoError" 204),some .ar,some .aw]⟩,
⟨.type "getset_descriptor", none,.fields #[.str "__weakref__" 216,.ref 38,.builtin "ExceptionGroup.__weakref__", .none],#[]⟩,
⟨.type "super", none,.fields #[.ref 38,.ref 38,.ref 38],#[]⟩,
⟨.type "builtin_function_or_method", none,.fields #[.builtin "object.__init_subclass__", .ref 38],#[]⟩,
⟨.type "tuple", none,.seq #[.ref 38] 0,#[]⟩,
⟨.type "builtin_function_or_method", none,.fields #[.builtin "type.__prepare__", .type "type"],#[]⟩,
⟨.type "dict", none,.dict #[de P "__module__" 228 .t,de P "__qualname__" 230 (.str "NoFraction" 229),de P "__firstlineno__" 232 (.int (9) 231),de P "word" 239 (.c 55),de P "__static_attributes__" 240 (.c 56)] 5,#[]⟩,
⟨.type "tuple", none,.seq #[] 0,#[]⟩,
⟨.none,none,.fields #[.int (11) 0,.int (4) 0,.ref 54],#[]⟩,
⟨.type "code", none,.fields #[.str "NoFraction" 223,.str "NoFraction" 224,.str "/claim/cut.py" 225,.int (9) 0,.int (0) 0,.int (0) 0,.int (0) 0,.int (0) 0,.ref 45,.bool false,.int (181) 0,.ref 46,.none,.none,.none,.none,.int (226) 0,.int (9) 0,.str "/claim/cut.py" 227],#[]⟩,
⟨.type "frame", none,.plain,#[some (.c 47),some (.c 3),some (.c 44),none,some .t,none,some (.c 0)]⟩] ++
 (gA 49 (tc 3 0) "word" "NoFraction.word" 233 11 1 .an .t ++
 ([.a7,
⟨.type "dict", none,.dict #[de P "__module__" 228 .t,de P "__firstlineno__" 232 (.int (9) 231),de P "word" 239 (.c 55),de P "__static_attributes__" 240 (.c 56),de P "__doc__" 241 .dF] 2,#[]⟩,
⟨.type "type", none,.cls ⟨"NoFraction", [.ref 38],[.ref 58,.ref 38,.type "ValueError", .type "Exception", .type "BaseException", .type "object"],57,"NoFraction", true,[],[],false,none,false⟩,#[some (.c 42),none,some (.str "NoFraction" 221),some (.str "NoFraction" 229),some .ar,some .aw]⟩,
⟨.type "super", none,.fields #[.ref 58,.ref 58,.ref 58],#[]⟩,
⟨.type "builtin_function_or_method", none,.fields #[.builtin "object.__init_subclass__", .ref 58],#[]⟩,
⟨.type "tuple", none,.seq #[.ref 38] 0,#[]⟩,
⟨.type "builtin_function_or_method", none,.fields #[.builtin "type.__prepare__", .type "type"],#[]⟩,
⟨.type "dict", none,.dict #[de P "__module__" 251 .t,de P "__qualname__" 253 (.str "NoFit" 252),de P "__firstlineno__" 255 (.int (13) 254),de P "word" 262 (.c 74),de P "__static_attributes__" 263 (.c 75)] 5,#[]⟩,
⟨.type "tuple", none,.seq #[] 0,#[]⟩,
⟨.none,none,.fields #[.int (15) 0,.int (4) 0,.ref 73],#[]⟩,
⟨.type "code", none,.fields #[.str "NoFit" 246,.str "NoFit" 247,.str "/claim/cut.py" 248,.int (13) 0,.int (0) 0,.int (0) 0,.int (0) 0,.int (0) 0,.ref 64,.bool false,.int (181) 0,.ref 65,.none,.none,.none,.none,.int (249) 0,.int (13) 0,.str "/claim/cut.py" 250],#[]⟩,
⟨.type "frame", none,.plain,#[some (.c 66),some (.c 3),some (.c 63),none,some .t,none,some (.c 0)]⟩] ++
 (gA 68 (tc 4 0) "word" "NoFit.word" 256 15 1 .an .t ++
 ([.a7,
⟨.type "dict", none,.dict #[de P "__module__" 251 .t,de P "__firstlineno__" 255 (.int (13) 254),de P "word" 262 (.c 74),de P "__static_attributes__" 263 (.c 75),de P "__doc__" 264 .dF] 2,#[]⟩,
⟨.type "type", none,.cls ⟨"NoFit", [.ref 38],[.ref 77,.ref 38,.type "ValueError", .type "Exception", .type "BaseException", .type "object"],76,"NoFit", true,[],[],false,none,false⟩,#[some (.c 61),none,some (.str "NoFit" 244),some (.str "NoFit" 252),some .ar,some .aw]⟩,
⟨.type "super", none,.fields #[.ref 77,.ref 77,.ref 77],#[]⟩,
⟨.type "builtin_function_or_method", none,.fields #[.builtin "object.__init_subclass__", .ref 77],#[]⟩,
⟨.type "tuple", none,.seq #[.ref 38] 0,#[]⟩,
⟨.type "builtin_function_or_method", none,.fields #[.builtin "type.__prepare__", .type "type"],#[]⟩,
⟨.type "dict", none,.dict #[de P "__module__" 274 .t,de P "__qualname__" 276 (.str "TooMany" 275),de P "__firstlineno__" 278 (.int (17) 277),de P "word" 285 (.c 93),de P "__static_attributes__" 286 (.c 94)] 5,#[]⟩,
⟨.type "tuple", none,.seq #[] 0,#[]⟩,
⟨.none,none,.fields #[.int (19) 0,.int (4) 0,.ref 92],#[]⟩,
⟨.type "code", none,.fields #[.str "TooMany" 269,.str "TooMany" 270,.str "/claim/cut.py" 271,.int (17) 0,.int (0) 0,.int (0) 0,.int (0) 0,.int (0) 0,.ref 83,.bool false,.int (181) 0,.ref 84,.none,.none,.none,.none,.int (272) 0,.int (17) 0,.str "/claim/cut.py" 273],#[]⟩,
⟨.type "frame", none,.plain,#[some (.c 85),some (.c 3),some (.c 82),none,some .t,none,some (.c 0)]⟩] ++
 (gA 87 (tc 5 0) "word" "TooMany.word" 279 19 1 .an .t ++
 ([.a7,
⟨.type "dict", none,.dict #[de P "__module__" 274 .t,de P "__firstlineno__" 278 (.int (17) 277),de P "word" 285 (.c 93),de P "__static_attributes__" 286 (.c 94),de P "__doc__" 287 .dF] 2,#[]⟩,
⟨.type "type", none,.cls ⟨"TooMany", [.ref 38],[.ref 96,.ref 38,.type "ValueError", .type "Exception", .type "BaseException", .type "object"],95,"TooMany", true,[],[],false,none,false⟩,#[some (.c 80),none,some (.str "TooMany" 267),some (.str "TooMany" 275),some .ar,some .aw]⟩,
⟨.type "super", none,.fields #[.ref 96,.ref 96,.ref 96],#[]⟩,
⟨.type "builtin_function_or_method", none,.fields #[.builtin "object.__init_subclass__", .ref 96],#[]⟩,
⟨.type "tuple", none,.seq #[.ref 38] 0,#[]⟩,
⟨.type "builtin_function_or_method", none,.fields #[.builtin "type.__prepare__", .type "type"],#[]⟩,
⟨.type "dict", none,.dict #[de P "__module__" 297 .t,de P "__qualname__" 299 (.str "NoText" 298),de P "__firstlineno__" 301 (.int (21) 300),de P "__init__" 309 (.c 112),de P "word" 316 (.c 119),de P "__static_attributes__" 318 (.c 120)] 6,#[]⟩,
⟨.type "tuple", none,.seq #[] 0,#[]⟩,
⟨.none,none,.fields #[.int (23) 0,.int (4) 0,.ref 111,.int (26) 0,.int (4) 0,.ref 118],#[]⟩,
⟨.type "code", none,.fields #[.str "NoText" 292,.str "NoText" 293,.str "/claim/cut.py" 294,.int (21) 0,.int (0) 0,.int (0) 0,.int (0) 0,.int (0) 0,.ref 102,.bool false,.int (181) 0,.ref 103,.none,.none,.none,.none,.int (295) 0,.int (21) 0,.str "/claim/cut.py" 296],#[]⟩,
⟨.type "frame", none,.plain,#[some (.c 104),some (.c 3),some (.c 101),none,some .t,none,some (.c 0)]⟩] ++
 (gA 106 (tc 6 0) "__init__" "NoText.__init__" 302 23 2 ["self","place"] .t ++
 (gA 113 (tc 6 1) "word" "NoText.word" 310 26 1 .an .t ++
 ([⟨.type "tuple", none,.seq #[.str "place" 317] 0,#[]⟩,
⟨.type "dict", none,.dict #[de P "__module__" 297 .t,de P "__firstlineno__" 301 (.int (21) 300),de P "__init__" 309 (.c 112),de P "word" 316 (.c 119),de P "__static_attributes__" 318 (.c 120),de P "__doc__" 319 .dF] 2,#[]⟩,
⟨.type "type", none,.cls ⟨"NoText", [.ref 38],[.ref 122,.ref 38,.type "ValueError", .type "Exception", .type "BaseException", .type "object"],121,"NoText", true,[],[],false,none,false⟩,#[some (.c 99),none,some (.str "NoText" 290),some (.str "NoText" 298),some .ar,some .aw]⟩,
⟨.type "super", none,.fields #[.ref 122,.ref 122,.ref 122],#[]⟩,
⟨.type "builtin_function_or_method", none,.fields #[.builtin "object.__init_subclass__", .ref 122],#[]⟩,
⟨.type "tuple", none,.seq #[.ref 38] 0,#[]⟩,
⟨.type "builtin_function_or_method", none,.fields #[.builtin "type.__prepare__", .type "type"],#[]⟩,
⟨.type "dict", none,.dict #[de P "__module__" 329 .t,de P "__qualname__" 331 (.str "NoPart" 330),de P "__firstlineno__" 333 (.int (28) 332),de P "__init__" 341 (.c 138),de P "word" 348 (.c 145),de P "__static_attributes__" 350 (.c 146)] 6,#[]⟩,
⟨.type "tuple", none,.seq #[] 0,#[]⟩,
⟨.none,none,.fields #[.int (30) 0,.int (4) 0,.ref 137,.int (33) 0,.int (4) 0,.ref 144],#[]⟩,
⟨.type "code", none,.fields #[.str "NoPart" 324,.str "NoPart" 325,.str "/claim/cut.py" 326,.int (28) 0,.int (0) 0,.int (0) 0,.int (0) 0,.int (0) 0,.ref 128,.bool false,.int (181) 0,.ref 129,.none,.none,.none,.none,.int (327) 0,.int (28) 0,.str "/claim/cut.py" 328],#[]⟩,
⟨.type "frame", none,.plain,#[some (.c 130),some (.c 3),some (.c 127),none,some .t,none,some (.c 0)]⟩] ++
 (gA 132 (tc 7 0) "__init__" "NoPart.__init__" 334 30 2 ["self","name"] .t ++
 (gA 139 (tc 7 1) "word" "NoPart.word" 342 33 1 .an .t ++
 ([⟨.type "tuple", none,.seq #[.str "name" 349] 0,#[]⟩,
⟨.type "dict", none,.dict #[de P "__module__" 329 .t,de P "__firstlineno__" 333 (.int (28) 332),de P "__init__" 341 (.c 138),de P "word" 348 (.c 145),de P "__static_attributes__" 350 (.c 146),de P "__doc__" 351 .dF] 2,#[]⟩,
⟨.type "type", none,.cls ⟨"NoPart", [.ref 38],[.ref 148,.ref 38,.type "ValueError", .type "Exception", .type "BaseException", .type "object"],147,"NoPart", true,[],[],false,none,false⟩,#[some (.c 125),none,some (.str "NoPart" 322),some (.str "NoPart" 330),some .ar,some .aw]⟩,
⟨.type "super", none,.fields #[.ref 148,.ref 148,.ref 148],#[]⟩,
⟨.type "builtin_function_or_method", none,.fields #[.builtin "object.__init_subclass__", .ref 148],#[]⟩,
⟨.type "tuple", none,.seq #[.ref 38] 0,#[]⟩,
⟨.type "builtin_function_or_method", none,.fields #[.builtin "type.__prepare__", .type "type"],#[]⟩,
⟨.type "dict", none,.dict #[de P "__module__" 361 .t,de P "__qualname__" 363 (.str "Twice" 362),de P "__firstlineno__" 365 (.int (35) 364),de P "__init__" 373 (.c 164),de P "word" 380 (.c 171),de P "__static_attributes__" 382 (.c 172)] 6,#[]⟩,
⟨.type "tuple", none,.seq #[] 0,#[]⟩,
⟨.none,none,.fields #[.int (37) 0,.int (4) 0,.ref 163,.int (40) 0,.int (4) 0,.ref 170],#[]⟩,
⟨.type "code", none,.fields #[.str "Twice" 356,.str "Twice" 357,.str "/claim/cut.py" 358,.int (35) 0,.int (0) 0,.int (0) 0,.int (0) 0,.int (0) 0,.ref 154,.bool false,.int (181) 0,.ref 155,.none,.none,.none,.none,.int (359) 0,.int (35) 0,.str "/claim/cut.py" 360],#[]⟩,
⟨.type "frame", none,.plain,#[some (.c 156),some (.c 3),some (.c 153),none,some .t,none,some (.c 0)]⟩] ++
 (gA 158 (tc 8 0) "__init__" "Twice.__init__" 366 37 2 ["self","name"] .t ++
 (gA 165 (tc 8 1) "word" "Twice.word" 374 40 1 .an .t ++
 ([⟨.type "tuple", none,.seq #[.str "name" 381] 0,#[]⟩,
⟨.type "dict", none,.dict #[de P "__module__" 361 .t,de P "__firstlineno__" 365 (.int (35) 364),de P "__init__" 373 (.c 164),de P "word" 380 (.c 171),de P "__static_attributes__" 382 (.c 172),de P "__doc__" 383 .dF] 2,#[]⟩,
⟨.type "type", none,.cls ⟨"Twice", [.ref 38],[.ref 174,.ref 38,.type "ValueError", .type "Exception", .type "BaseException", .type "object"],173,"Twice", true,[],[],false,none,false⟩,#[some (.c 151),none,some (.str "Twice" 354),some (.str "Twice" 362),some .ar,some .aw]⟩,
⟨.type "super", none,.fields #[.ref 174,.ref 174,.ref 174],#[]⟩,
⟨.type "builtin_function_or_method", none,.fields #[.builtin "object.__init_subclass__", .ref 174],#[]⟩,
⟨.type "tuple", none,.seq #[.ref 38] 0,#[]⟩,
⟨.type "builtin_function_or_method", none,.fields #[.builtin "type.__prepare__", .type "type"],#[]⟩,
⟨.type "dict", none,.dict #[de P "__module__" 393 .t,de P "__qualname__" 395 (.str "Ring" 394),de P "__firstlineno__" 397 (.int (42) 396),de P "__init__" 405 (.c 190),de P "word" 412 (.c 197),de P "__static_attributes__" 414 (.c 198)] 6,#[]⟩,
⟨.type "tuple", none,.seq #[] 0,#[]⟩,
⟨.none,none,.fields #[.int (44) 0,.int (4) 0,.ref 189,.int (47) 0,.int (4) 0,.ref 196],#[]⟩,
⟨.type "code", none,.fields #[.str "Ring" 388,.str "Ring" 389,.str "/claim/cut.py" 390,.int (42) 0,.int (0) 0,.int (0) 0,.int (0) 0,.int (0) 0,.ref 180,.bool false,.int (181) 0,.ref 181,.none,.none,.none,.none,.int (391) 0,.int (42) 0,.str "/claim/cut.py" 392],#[]⟩,
⟨.type "frame", none,.plain,#[some (.c 182),some (.c 3),some (.c 179),none,some .t,none,some (.c 0)]⟩] ++
 (gA 184 (tc 9 0) "__init__" "Ring.__init__" 398 44 2 ["self","names"] .t ++
 (gA 191 (tc 9 1) "word" "Ring.word" 406 47 1 .an .t ++
 ([⟨.type "tuple", none,.seq #[.str "names" 413] 0,#[]⟩,
⟨.type "dict", none,.dict #[de P "__module__" 393 .t,de P "__firstlineno__" 397 (.int (42) 396),de P "__init__" 405 (.c 190),de P "word" 412 (.c 197),de P "__static_attributes__" 414 (.c 198),de P "__doc__" 415 .dF] 2,#[]⟩,
⟨.type "type", none,.cls ⟨"Ring", [.ref 38],[.ref 200,.ref 38,.type "ValueError", .type "Exception", .type "BaseException", .type "object"],199,"Ring", true,[],[],false,none,false⟩,#[some (.c 177),none,some (.str "Ring" 386),some (.str "Ring" 394),some .ar,some .aw]⟩,
⟨.type "super", none,.fields #[.ref 200,.ref 200,.ref 200],#[]⟩,
⟨.type "builtin_function_or_method", none,.fields #[.builtin "object.__init_subclass__", .ref 200],#[]⟩] ++
 (gA 203 (tp 13) "common" "common" 424 52 2 ["one","other","factors"] .bX ++
 (gA 210 (tp 14) "half" "half" 433 61 2 ["one","other","goal","factors","shift","further"] .bX ++
 (gA 217 (tp 15) "stepped" "stepped" 445 72 3 ["one","other","goal","factors"] .bX ++
 (gA 224 (tp 16) "step" "step" 455 77 3 ["one","other","factors","by","rest","a","b","c","d"] .bX ++
 (gA 231 (tp 17) "upper_half" "upper_half" 470 81 3 ["one","other","shift","top","other_top","a","b","c","d","low","other_low"] .bX ++
 (gA 238 (tp 18) "factors_joined" "factors_joined" 487 91 2 ["further","factors","a","b","c","d","e","f","g","h"] .bX ++
 ([.cY] ++
 (gA 246 (tp 22) "is_whole" "is_whole" 510 98 1 ["thing"] .bg ++
 (gA 253 (tp 23) "is_fraction" "is_fraction" 517 100 1 ["thing","top","bottom"] .bg ++
 (gA 260 (tp 24) "plus" "plus" 526 105 2 ["one","other","shared","top","low"] .bg ++
 (gA 267 (tp 25) "minus" "minus" 537 110 2 .bS .bg ++
 (gA 274 (tp 26) "times" "times" 545 112 2 ["one","other","left","right"] .bg ++
 (gA 281 (tp 27) "show_frac" "show_frac" 555 116 1 ["one","sign","top"] .bg ++
 (gA 288 (tp 28) "figures" "figures" 564 122 1 ["number","blocks","block"] .bg ++
 (gA 295 (tp 29) "read_frac" "read_frac" 573 129 1 ["text","top","stroke","bottom","one"] .bg ++
 (gB 302 (tp 30) "is_figures" "is_figures" 584 141 1 .bg ++
 ([.a7,
⟨.type "builtin_function_or_method", none,.fields #[.builtin "type.__prepare__", .type "type"],#[]⟩,
⟨.type "dict", none,.dict #[de P "__module__" 599 .o,de P "__qualname__" 601 (.str "Part" 600),de P "__firstlineno__" 603 (.int (144) 602),de P "row" 610 (.c 320),de P "wants" 617 (.c 327),de P "tells" 625 (.c 334),de P "__static_attributes__" 626 (.c 335)] 7,#[]⟩,
⟨.type "tuple", none,.seq #[] 0,#[]⟩,
⟨.none,none,.fields #[.int (146) 0,.int (4) 0,.ref 319,.int (149) 0,.int (4) 0,.ref 326,.int (152) 0,.int (4) 0,.ref 333],#[]⟩,
⟨.type "code", none,.fields #[.str "Part" 594,.str "Part" 595,.str "/claim/cut.py" 596,.int (144) 0,.int (0) 0,.int (0) 0,.int (0) 0,.int (0) 0,.ref 310,.bool false,.int (181) 0,.ref 311,.none,.none,.none,.none,.int (597) 0,.int (144) 0,.str "/claim/cut.py" 598],#[]⟩,
⟨.type "frame", none,.plain,#[some (.c 312),some (.c 3),some (.c 309),none,some .o,none,some (.c 0)]⟩] ++
 (gA 314 (tc 32 0) "row" "Part.row" 604 146 1 .an .o ++
 (gA 321 (tc 32 1) "wants" "Part.wants" 611 149 1 .an .o ++
 (gA 328 (tc 32 2) "tells" "Part.tells" 618 152 2 .ad .o ++
 ([.a7,
⟨.type "dict", none,.dict #[de P "__module__" 599 .o,de P "__firstlineno__" 603 (.int (144) 602),de P "row" 610 (.c 320),de P "wants" 617 (.c 327),de P "tells" 625 (.c 334),de P "__static_attributes__" 626 (.c 335),de P "__dict__" 628 (.c 338),de P "__weakref__" 630 (.c 339),de P "__doc__" 631 .dF] 4,#[]⟩,
⟨.type "type", none,.cls ⟨"Part", .fv,.eN,336,"Part", true,[],[.ref 372,.ref 412,.ref 452,.ref 488,.ref 528],false,none,false⟩,#[none,none,some (.str "Part" 592),some (.str "Part" 600),some .ab,some .aw]⟩,
⟨.type "getset_descriptor", none,.fields #[.str "__dict__" 627,.ref 337,.builtin "function.__dict__", .builtin "function.__dict__#set"],#[]⟩,
⟨.type "getset_descriptor", none,.fields #[.str "__weakref__" 629,.ref 337,.builtin "ExceptionGroup.__weakref__", .none],#[]⟩,
⟨.type "super", none,.fields #[.ref 337,.ref 337,.ref 337],#[]⟩,
⟨.type "builtin_function_or_method", none,.fields #[.builtin "object.__init_subclass__", .ref 337],#[]⟩,
⟨.type "tuple", none,.seq #[.ref 337] 0,#[]⟩,
⟨.type "builtin_function_or_method", none,.fields #[.builtin "type.__prepare__", .type "type"],#[]⟩,
⟨.type "dict", none,.dict #[de P "__module__" 641 .o,de P "__qualname__" 643 (.str "In" 642),de P "__firstlineno__" 645 (.int (154) 644),de P "__init__" 653 (.c 355),de P "row" 660 (.c 362),de P "tells" 668 (.c 369),de P "__static_attributes__" 670 (.c 370)] 7,#[]⟩,
⟨.type "tuple", none,.seq #[] 0,#[]⟩,
⟨.none,none,.fields #[.int (156) 0,.int (4) 0,.ref 354,.int (159) 0,.int (4) 0,.ref 361,.int (162) 0,.int (4) 0,.ref 368],#[]⟩,
⟨.type "code", none,.fields #[.str "In" 636,.str "In" 637,.str "/claim/cut.py" 638,.int (154) 0,.int (0) 0,.int (0) 0,.int (0) 0,.int (0) 0,.ref 345,.bool false,.int (181) 0,.ref 346,.none,.none,.none,.none,.int (639) 0,.int (154) 0,.str "/claim/cut.py" 640],#[]⟩,
⟨.type "frame", none,.plain,#[some (.c 347),some (.c 3),some (.c 344),none,some .o,none,some (.c 0)]⟩] ++
 (gA 349 (tc 33 0) "__init__" "In.__init__" 646 156 2 ["self","name"] .o ++
 (gA 356 (tc 33 1) "row" "In.row" 654 159 1 .an .o ++
 (gA 363 (tc 33 2) "tells" "In.tells" 661 162 2 .ad .o ++
 ([⟨.type "tuple", none,.seq #[.str "name" 669] 0,#[]⟩,
⟨.type "dict", none,.dict #[de P "__module__" 641 .o,de P "__firstlineno__" 645 (.int (154) 644),de P "__init__" 653 (.c 355),de P "row" 660 (.c 362),de P "tells" 668 (.c 369),de P "__static_attributes__" 670 (.c 370),de P "__doc__" 671 .dF] 2,#[]⟩,
⟨.type "type", none,.cls ⟨"In", [.ref 337],[.ref 372,.ref 337,.type "object"],371,"In", true,[],[],false,none,false⟩,#[some (.c 342),none,some (.str "In" 634),some (.str "In" 642),some .ab,some .aw]⟩,
⟨.type "super", none,.fields #[.ref 372,.ref 372,.ref 372],#[]⟩,
⟨.type "builtin_function_or_method", none,.fields #[.builtin "object.__init_subclass__", .ref 372],#[]⟩,
⟨.type "tuple", none,.seq #[.ref 337] 0,#[]⟩,
⟨.type "builtin_function_or_method", none,.fields #[.builtin "type.__prepare__", .type "type"],#[]⟩,
⟨.type "dict", none,.dict #[de P "__module__" 681 .o,de P "__qualname__" 683 (.str "Cell" 682),de P "__firstlineno__" 685 (.int (164) 684),de P "__init__" 694 (.c 388),de P "row" 701 (.c 395),de P "wants" 708 (.c 402),de P "tells" 716 (.c 409),de P "__static_attributes__" 719 (.c 410)] 8,#[]⟩,
⟨.type "tuple", none,.seq #[] 0,#[]⟩,
⟨.none,none,.fields #[.int (166) 0,.int (4) 0,.ref 387,.int (170) 0,.int (4) 0,.ref 394,.int (173) 0,.int (4) 0,.ref 401,.int (176) 0,.int (4) 0,.ref 408],#[]⟩,
⟨.type "code", none,.fields #[.str "Cell" 676,.str "Cell" 677,.str "/claim/cut.py" 678,.int (164) 0,.int (0) 0,.int (0) 0,.int (0) 0,.int (0) 0,.ref 378,.bool false,.int (181) 0,.ref 379,.none,.none,.none,.none,.int (679) 0,.int (164) 0,.str "/claim/cut.py" 680],#[]⟩,
⟨.type "frame", none,.plain,#[some (.c 380),some (.c 3),some (.c 377),none,some .o,none,some (.c 0)]⟩] ++
 (gA 382 (tc 34 0) "__init__" "Cell.__init__" 686 166 3 .eW .o ++
 (gA 389 (tc 34 1) "row" "Cell.row" 695 170 1 .an .o ++
 (gA 396 (tc 34 2) "wants" "Cell.wants" 702 173 1 .an .o ++
 (gA 403 (tc 34 3) "tells" "Cell.tells" 709 176 2 .ad .o ++
 ([⟨.type "tuple", none,.seq #[.str "name" 717,.str "source" 718] 0,#[]⟩,
⟨.type "dict", none,.dict #[de P "__module__" 681 .o,de P "__firstlineno__" 685 (.int (164) 684),de P "__init__" 694 (.c 388),de P "row" 701 (.c 395),de P "wants" 708 (.c 402),de P "tells" 716 (.c 409),de P "__static_attributes__" 719 (.c 410),de P "__doc__" 720 .dF] 2,#[]⟩,
⟨.type "type", none,.cls ⟨"Cell", [.ref 337],[.ref 412,.ref 337,.type "object"],411,"Cell", true,[],[],false,none,false⟩,#[some (.c 375),none,some (.str "Cell" 674),some (.str "Cell" 682),some .ab,some .aw]⟩,
⟨.type "super", none,.fields #[.ref 412,.ref 412,.ref 412],#[]⟩,
⟨.type "builtin_function_or_method", none,.fields #[.builtin "object.__init_subclass__", .ref 412],#[]⟩,
⟨.type "tuple", none,.seq #[.ref 337] 0,#[]⟩,
⟨.type "builtin_function_or_method", none,.fields #[.builtin "type.__prepare__", .type "type"],#[]⟩,
⟨.type "dict", none,.dict #[de P "__module__" 730 .o,de P "__qualname__" 732 (.str "Gain" 731),de P "__firstlineno__" 734 (.int (178) 733),de P "__init__" 744 (.c 428),de P "row" 751 (.c 435),de P "wants" 758 (.c 442),de P "tells" 766 (.c 449),de P "__static_attributes__" 770 (.c 450)] 8,#[]⟩,
⟨.type "tuple", none,.seq #[] 0,#[]⟩,
⟨.none,none,.fields #[.int (180) 0,.int (4) 0,.ref 427,.int (185) 0,.int (4) 0,.ref 434,.int (188) 0,.int (4) 0,.ref 441,.int (191) 0,.int (4) 0,.ref 448],#[]⟩,
⟨.type "code", none,.fields #[.str "Gain" 725,.str "Gain" 726,.str "/claim/cut.py" 727,.int (178) 0,.int (0) 0,.int (0) 0,.int (0) 0,.int (0) 0,.ref 418,.bool false,.int (181) 0,.ref 419,.none,.none,.none,.none,.int (728) 0,.int (178) 0,.str "/claim/cut.py" 729],#[]⟩,
⟨.type "frame", none,.plain,#[some (.c 420),some (.c 3),some (.c 417),none,some .o,none,some (.c 0)]⟩] ++
 (gA 422 (tc 35 0) "__init__" "Gain.__init__" 735 180 4 .dN .o ++
 (gA 429 (tc 35 1) "row" "Gain.row" 745 185 1 .an .o ++
 (gA 436 (tc 35 2) "wants" "Gain.wants" 752 188 1 .an .o ++
 (gA 443 (tc 35 3) "tells" "Gain.tells" 759 191 2 .ad .o ++
 ([⟨.type "tuple", none,.seq #[.str "by" 767,.str "name" 768,.str "source" 769] 0,#[]⟩,
⟨.type "dict", none,.dict #[de P "__module__" 730 .o,de P "__firstlineno__" 734 (.int (178) 733),de P "__init__" 744 (.c 428),de P "row" 751 (.c 435),de P "wants" 758 (.c 442),de P "tells" 766 (.c 449),de P "__static_attributes__" 770 (.c 450),de P "__doc__" 771 .dF] 2,#[]⟩,
⟨.type "type", none,.cls ⟨"Gain", [.ref 337],[.ref 452,.ref 337,.type "object"],451,"Gain", true,[],[],false,none,false⟩,#[some (.c 415),none,some (.str "Gain" 723),some (.str "Gain" 731),some .ab,some .aw]⟩,
⟨.type "super", none,.fields #[.ref 452,.ref 452,.ref 452],#[]⟩,
⟨.type "builtin_function_or_method", none,.fields #[.builtin "object.__init_subclass__", .ref 452],#[]⟩,
⟨.type "tuple", none,.seq #[.ref 337] 0,#[]⟩,
⟨.type "builtin_function_or_method", none,.fields #[.builtin "type.__prepare__", .type "type"],#[]⟩,
⟨.type "dict", none,.dict #[de P "__module__" 781 .o,de P "__qualname__" 783 (.str "Sum" 782),de P "__firstlineno__" 785 (.int (193) 784),de P "__init__" 794 (.c 468),de P "row" 800 (.c 473),de P "wants" 806 (.c 478),de P "tells" 817 (.c 485),de P "__static_attributes__" 820 (.c 486)] 8,#[]⟩,
⟨.type "tuple", none,.seq #[] 0,#[]⟩,
⟨.none,none,.fields #[.int (195) 0,.int (4) 0,.ref 467,.int (199) 0,.int (4) 0,.ref 472,.int (202) 0,.int (4) 0,.ref 477,.int (205) 0,.int (4) 0,.ref 484],#[]⟩,
⟨.type "code", none,.fields #[.str "Sum" 776,.str "Sum" 777,.str "/claim/cut.py" 778,.int (193) 0,.int (0) 0,.int (0) 0,.int (0) 0,.int (0) 0,.ref 458,.bool false,.int (181) 0,.ref 459,.none,.none,.none,.none,.int (779) 0,.int (193) 0,.str "/claim/cut.py" 780],#[]⟩,
⟨.type "frame", none,.plain,#[some (.c 460),some (.c 3),some (.c 457),none,some .o,none,some (.c 0)]⟩] ++
 (gA 462 (tc 36 0) "__init__" "Sum.__init__" 786 195 3 .fe .o ++
 (gB 469 (tc 36 1) "row" "Sum.row" 795 199 1 .o ++
 (gB 474 (tc 36 2) "wants" "Sum.wants" 801 202 1 .o ++
 (gA 479 (tc 36 3) "tells" "Sum.tells" 807 205 2 ["self","values","total","sign","name"] .o ++
 ([⟨.type "tuple", none,.seq #[.str "name" 818,.str "terms" 819] 0,#[]⟩,
⟨.type "dict", none,.dict #[de P "__module__" 781 .o,de P "__firstlineno__" 785 (.int (193) 784),de P "__init__" 794 (.c 468),de P "row" 800 (.c 473),de P "wants" 806 (.c 478),de P "tells" 817 (.c 485),de P "__static_attributes__" 820 (.c 486),de P "__doc__" 821 .dF] 2,#[]⟩,
⟨.type "type", none,.cls ⟨"Sum", [.ref 337],[.ref 488,.ref 337,.type "object"],487,"Sum", true,[],[],false,none,false⟩,#[some (.c 455),none,some (.str "Sum" 774),some (.str "Sum" 782),some .ab,some .aw]⟩,
⟨.type "super", none,.fields #[.ref 488,.ref 488,.ref 488],#[]⟩,
⟨.type "builtin_function_or_method", none,.fields #[.builtin "object.__init_subclass__", .ref 488],#[]⟩,
⟨.type "tuple", none,.seq #[.ref 337] 0,#[]⟩,
⟨.type "builtin_function_or_method", none,.fields #[.builtin "type.__prepare__", .type "type"],#[]⟩,
⟨.type "dict", none,.dict #[de P "__module__" 831 .o,de P "__qualname__" 833 (.str "Out" 832),de P "__firstlineno__" 835 (.int (210) 834),de P "__init__" 843 (.c 504),de P "row" 850 (.c 511),de P "wants" 857 (.c 518),de P "tells" 865 (.c 525),de P "__static_attributes__" 867 (.c 526)] 8,#[]⟩,
⟨.type "tuple", none,.seq #[] 0,#[]⟩,
⟨.none,none,.fields #[.int (212) 0,.int (4) 0,.ref 503,.int (215) 0,.int (4) 0,.ref 510,.int (218) 0,.int (4) 0,.ref 517,.int (221) 0,.int (4) 0,.ref 524],#[]⟩,
⟨.type "code", none,.fields #[.str "Out" 826,.str "Out" 827,.str "/claim/cut.py" 828,.int (210) 0,.int (0) 0,.int (0) 0,.int (0) 0,.int (0) 0,.ref 494,.bool false,.int (181) 0,.ref 495,.none,.none,.none,.none,.int (829) 0,.int (210) 0,.str "/claim/cut.py" 830],#[]⟩,
⟨.type "frame", none,.plain,#[some (.c 496),some (.c 3),some (.c 493),none,some .o,none,some (.c 0)]⟩] ++
 (gA 498 (tc 37 0) "__init__" "Out.__init__" 836 212 2 ["self","source"] .o ++
 (gA 505 (tc 37 1) "row" "Out.row" 844 215 1 .an .o ++
 (gA 512 (tc 37 2) "wants" "Out.wants" 851 218 1 .an .o ++
 (gA 519 (tc 37 3) "tells" "Out.tells" 858 221 2 .ad .o ++
 ([⟨.type "tuple", none,.seq #[.str "source" 866] 0,#[]⟩,
⟨.type "dict", none,.dict #[de P "__module__" 831 .o,de P "__firstlineno__" 835 (.int (210) 834),de P "__init__" 843 (.c 504),de P "row" 850 (.c 511),de P "wants" 857 (.c 518),de P "tells" 865 (.c 525),de P "__static_attributes__" 867 (.c 526),de P "__doc__" 868 .dF] 2,#[]⟩,
⟨.type "type", none,.cls ⟨"Out", [.ref 337],[.ref 528,.ref 337,.type "object"],527,"Out", true,[],[],false,none,false⟩,#[some (.c 491),none,some (.str "Out" 824),some (.str "Out" 832),some .ab,some .aw]⟩,
⟨.type "super", none,.fields #[.ref 528,.ref 528,.ref 528],#[]⟩,
⟨.type "builtin_function_or_method", none,.fields #[.builtin "object.__init_subclass__", .ref 528],#[]⟩,
⟨.type "tuple", none,.seq #[] 0,#[]⟩,
⟨.type "builtin_function_or_method", none,.fields #[.builtin "type.__prepare__", .type "type"],#[]⟩,
⟨.type "dict", none,.dict #[de P "__module__" 896 .H,de P "__qualname__" 898 (.str "Wiring" 897),de P "__firstlineno__" 900 (.int (232) 899),de P "__init__" 906 (.c 542),de P "text" 913 (.c 549),de P "parts" 920 (.c 556),de P "ins" 927 (.c 563),de P "outs" 934 (.c 570),de P "cell_names" 941 (.c 577),de P "order" 947 (.c 582),de P "run" 956 (.c 589),de P "values_at" 965 (.c 596),de P "__static_attributes__" 972 (.c 597)] 13,#[]⟩,
⟨.type "tuple", none,.seq #[] 0,#[]⟩,
⟨.none,none,.fields #[.int (234) 0,.int (4) 0,.ref 541,.int (245) 0,.int (4) 0,.ref 548,.int (248) 0,.int (4) 0,.ref 555,.int (251) 0,.int (4) 0,.ref 562,.int (254) 0,.int (4) 0,.ref 569,.int (257) 0,.int (4) 0,.ref 576,.int (260) 0,.int (4) 0,.ref 581,.int (263) 0,.int (4) 0,.ref 588,.int (266) 0,.int (4) 0,.ref 595],#[]⟩,
⟨.type "code", none,.fields #[.str "Wiring" 891,.str "Wiring" 892,.str "/claim/cut.py" 893,.int (232) 0,.int (0) 0,.int (0) 0,.int (0) 0,.int (0) 0,.ref 534,.bool false,.int (181) 0,.ref 535,.none,.none,.none,.none,.int (894) 0,.int (232) 0,.str "/claim/cut.py" 895],#[]⟩,
⟨.type "frame", none,.plain,#[some (.c 536),some (.c 3),some (.c 533),none,some .H,none,some (.c 0)]⟩] ++
 (gB 538 (tc 47 0) "__init__" "Wiring.__init__" 901 234 2 .H ++
 (gA 543 (tc 47 1) "text" "Wiring.text" 907 245 1 .an .H ++
 (gA 550 (tc 47 2) "parts" "Wiring.parts" 914 248 1 .an .H ++
 (gA 557 (tc 47 3) "ins" "Wiring.ins" 921 251 1 .an .H ++
 (gA 564 (tc 47 4) "outs" "Wiring.outs" 928 254 1 .an .H ++
 (gA 571 (tc 47 5) "cell_names" "Wiring.cell_names" 935 257 1 .an .H ++
 (gB 578 (tc 47 6) "order" "Wiring.order" 942 260 1 .H ++
 (gA 583 (tc 47 7) "run" "Wiring.run" 948 263 3 ["self","start","inputs"] .H ++
 (gA 590 (tc 47 8) "values_at" "Wiring.values_at" 957 266 3 ["self","state","given"] .H ++
 ([⟨.type "tuple", none,.seq #[.str "all_parts" 966,.str "cell_parts" 967,.str "in_parts" 968,.str "inner_parts" 969,.str "out_parts" 970,.str "whole" 971] 0,#[]⟩,
⟨.type "dict", none,.dict #[de P "__module__" 896 .H,de P "__firstlineno__" 900 (.int (232) 899),de P "__init__" 906 (.c 542),de P "text" 913 (.c 549),de P "parts" 920 (.c 556),de P "ins" 927 (.c 563),de P "outs" 934 (.c 570),de P "cell_names" 941 (.c 577),de P "order" 947 (.c 582),de P "run" 956 (.c 589),de P "values_at" 965 (.c 596),de P "__static_attributes__" 972 (.c 597),de P "__dict__" 974 (.c 600),de P "__weakref__" 976 (.c 601),de P "__doc__" 977 .dF] 4,#[]⟩,
⟨.type "type", none,.cls ⟨"Wiring", .fv,[.ref 599,.type "object"],598,"Wiring", true,[],[],false,none,false⟩,#[none,none,some (.str "Wiring" 889),some (.str "Wiring" 897),some .ab,some .aw]⟩,
⟨.type "getset_descriptor", none,.fields #[.str "__dict__" 973,.ref 599,.builtin "function.__dict__", .builtin "function.__dict__#set"],#[]⟩,
⟨.type "getset_descriptor", none,.fields #[.str "__weakref__" 975,.ref 599,.builtin "ExceptionGroup.__weakref__", .none],#[]⟩,
⟨.type "super", none,.fields #[.ref 599,.ref 599,.ref 599],#[]⟩,
⟨.type "builtin_function_or_method", none,.fields #[.builtin "object.__init_subclass__", .ref 599],#[]⟩] ++
 (gA 604 (tp 48) "read_parts" "read_parts" 980 268 1 ["text","parts","place","row","part"] .H ++
 (gA 611 (tp 49) "read_part" "read_part" 991 276 1 ["row","word","words"] .H ++
 (gA 618 (tp 50) "read_gain" "read_gain" 1000 289 3 ["name","number","source","by"] .H ++
 (gA 625 (tp 51) "read_factor" "read_factor" 1010 292 1 ["text","by"] .H ++
 (gB 632 (tp 52) "read_sum" "read_sum" 1018 298 2 .H ++
 (gB 637 (tp 53) "are_names" "are_names" 1024 301 2 .H ++
 (gB 642 (tp 54) "is_name" "is_name" 1030 303 1 .H ++
 (gA 647 (tp 55) "refuse_names" "refuse_names" 1036 305 1 ["parts","named","part","name"] .H ++
 (gB 654 (tp 56) "refuse_counts" "refuse_counts" 1046 316 1 .H ++
 (gB 659 (tp 57) "in_order" "in_order" 1052 324 1 .H ++
 (gB 664 (tp 58) "free_names" "free_names" 1058 335 2 .H ++
 (gA 669 (tp 59) "least_ring" "least_ring" 1064 337 1 ["wanted","many","start","ring"] .H ++
 (gB 676 (tp 60) "ring_from" "ring_from" 1074 344 3 .H ++
 (gB 681 (tp 61) "steps_back" "steps_back" 1080 352 3 .H ++
 (gA 686 (tp 63) "_law_cell" "_law_cell" 1088 359 2 .eX .B ++
 (gA 693 (tp 64) "_law_digits" "_law_digits" 1096 363 2 ["_law_cell_here","_law_bases","_law_found","_law_left","_law_base"] .B ++
 (gA 700 (tp 65) "_law_mixed" "_law_mixed" 1107 370 2 ["_law_cell_here","_law_many","_law_found","_law_number","_law_k"] .B ++
 (gB 707 (tp 66) "_law_drawn" "_law_drawn" 1118 377 2 .B ++
 (gB 712 (tp 67) "_law_names" "_law_names" 1124 381 2 .B ++
 (gA 717 (tp 68) "_law_frac" "_law_frac" 1130 391 2 ["_law_top","_law_bottom","_law_one","_law_other"] .B ++
 (gA 724 (tp 69) "_law_inner" "_law_inner" 1140 396 3 ["_law_name","_law_digits_here","_law_some","_law_terms","_law_digit"] .B ++
 (gB 731 (tp 70) "_law_parts" "_law_parts" 1151 403 1 .B ++
 (gB 736 (tp 71) "_law_laid" "_law_laid" 1157 419 2 .B ++
 (gA 741 (tp 72) "_law_frac_text" "_law_frac_text" 1163 424 1 ["_law_one"] .B ++
 (gB 748 (tp 73) "_law_row" "_law_row" 1170 428 1 .B ++
 (gB 753 (tp 74) "_law_text" "_law_text" 1176 434 1 .B ++
 (gA 758 (tp 75) "_law_value" "_law_value" 1182 436 1 ["_law_cell_here","_law_digits_here"] .B ++
 (gA 765 (tp 76) "_law_due" "_law_due" 1190 442 2 ["_law_part","_law_values","_law_one","_law_top","_law_bottom","_law_sign","_law_name"] .B ++
 (gB 772 (tp 77) "_law_made_good" "_law_made_good" 1203 456 4 .B ++
 (gA 777 (tp 78) "_law_by_hand" "_law_by_hand" 1209 465 3 ["_law_part","_law_values","_law_due_here","_law_line","_law_cell_here","_law_gain","_law_total","_law_end"] .B ++
 (gA 784 (tp 79) "law" "law" 1223 482 1 ["_law_script","_law_laid_here","_law_values","_law_k","_law_part","_law_handed","_law_thing","_law_found","_law_number"] .B)))))))))))))))))))))))))))))))))))))))))))))))))))))))))))))))))))))))))))))))))))))))))))))))))))))))))))))
def Qh (P:Params):PySem.W.BT:=B3 12 ((((ob P).take 15).set 3 (o3 P 9 9 (.str "__main__" 164))).set 12 (Ey 0))
def RN (P:Params):PySem.W.BT:=B3 12 (((((ob P).take 80).set 3 (o3 P 13 13 .t)).set 12 (Ey 4)).set 38 (.t ⟨"EchoError", [.type "ValueError"],.au,37,"EchoError", true,[],[.ref 58,.ref 77],false,none,false⟩))
def RO (P:Params):PySem.W.BT:=B3 12 (((((ob P).take 125).set 3 (o3 P 15 15 .t)).set 12 (Ey 6)).set 38 (.t ⟨"EchoError", [.type "ValueError"],.au,37,"EchoError", true,[],[.ref 58,.ref 77,.ref 96,.ref 122],false,none,false⟩))
def RP (P:Params):PySem.W.BT:=B3 12 (((((ob P).take 177).set 3 (o3 P 17 17 .t)).set 12 (Ey 8)).set 38 (.t ⟨"EchoError", [.type "ValueError"],.au,37,"EchoError", true,[],[.ref 58,.ref 77,.ref 96,.ref 122,.ref 148,.ref 174],false,none,false⟩))
def RQ (P:Params):PySem.W.BT:=B3 12 ((((ob P).take 245).set 3 (o3 P 26 26 .bX)).set 12 (Ey 15))
def RR (P:Params):PySem.W.BT:=B3 12 (((((ob P).take 342).set 3 (o3 P 38 38 .o)).set 12 (Ey 25)).set 337 ((.o ⟨"Part", .fv,.eN,336,"Part", true,[],[],false,none,false⟩)))
def RS (P:Params):PySem.W.BT:=B3 12 (((((ob P).take 415).set 3 (o3 P 40 40 .o)).set 12 (Ey 27)).set 337 ((.o ⟨"Part", .fv,.eN,336,"Part", true,[],[.ref 372,.ref 412],false,none,false⟩)))
def RT (P:Params):PySem.W.BT:=B3 12 (((((ob P).take 491).set 3 (o3 P 42 42 .o)).set 12 (Ey 29)).set 337 ((.o ⟨"Part", .fv,.eN,336,"Part", true,[],[.ref 372,.ref 412,.ref 452,.ref 488],false,none,false⟩)))
def RU (P:Params):PySem.W.BT:=B3 12 ((((ob P).take 604).set 3 (o3 P 52 52 .H)).set 12 (Ey 31))
def RV (P:Params):PySem.W.BT:=B3 12 ((((ob P).take 707).set 3 (o3 P 69 69 .B)).set 12 (Ey 48))
def ub (P:Params):PySem.W.BT:=B3 12 (((ob P).set 3 (o3 P 83 83 .B)).set 12 (Ey 62))
abbrev bd:List Stmt:=pg.main.body
def en:Env:={ scope:=pg.main.scope,locals:=mainNs,globals:=mainNs,cells:=[],code:=.ref 13,frame:=some 14 }
def cE:Code:=.body bd en
theorem h0 (P:Params):PySem.W.absHeap (B3 12 (bol P)) 11 {}=PySem.W.boot_heap P:=.a
set_option maxHeartbeats 0 in
open PySem.W PySem.Calls in
theorem hp (w:World):(fun os:OsState=>PZ treeTable pg w 11 (.J 6) 12 ⟨B3 12 (bol w.params),11,{},#[],boot_drawn,boot_toks,os⟩ (topStub pg))=fun os=>some (.bc,⟨denote treeTable (.body bd en),cE,⟨0,0,0,0⟩,.aO⟩):=.a
set_option maxHeartbeats 0 in
open PySem.W PySem.Calls in
theorem hq (w:World):(fun os:OsState=>segRunT treeTable pg w 11 (.J 6) 1 1 .bc (blockOf bd en cE ⟨0,0,0,0⟩ .aO))=fun os=>some (.next,.bc,cE,⟨0,0,0,0⟩):=.a
set_option maxHeartbeats 0 in
open PySem.W PySem.Calls in
theorem R1 (w:World):(fun os:OsState=>segRunT treeTable pg w 11 (.J 6) 1 741 .bc (piecesOf (.s 0 5) en cE ⟨0,0,0,0⟩ .aO))=fun os=>some (.next,(⟨RN w.params,80,{},#[],PySem.W.boot_drawn,267,os⟩:PySem.W.SharedT),cE,⟨13,0,16,23⟩):=.a
set_option maxHeartbeats 0 in
open PySem.W PySem.Calls in
theorem R3 (w:World):(fun os:OsState=>segRunT treeTable pg w 11 (.J 6) 1 520 (⟨RN w.params,80,{},#[],PySem.W.boot_drawn,267,os⟩:PySem.W.SharedT) (piecesOf (.s 5 2) en cE ⟨13,0,16,23⟩ .aO))=fun os=>some (.next,(⟨RO w.params,125,{},#[],PySem.W.boot_drawn,322,os⟩:PySem.W.SharedT),cE,⟨21,0,27,24⟩):=.a
set_option maxHeartbeats 0 in
open PySem.W PySem.Calls in
theorem R4 (w:World):(fun os:OsState=>segRunT treeTable pg w 11 (.J 6) 1 553 (⟨RO w.params,125,{},#[],PySem.W.boot_drawn,322,os⟩:PySem.W.SharedT) (piecesOf (.s 7 2) en cE ⟨21,0,27,24⟩ .aO))=fun os=>some (.next,(⟨RP w.params,177,{},#[],PySem.W.boot_drawn,386,os⟩:PySem.W.SharedT),cE,⟨35,0,41,22⟩):=.a
set_option maxHeartbeats 0 in
open PySem.W PySem.Calls in
theorem R5 (w:World):(fun os:OsState=>segRunT treeTable pg w 11 (.J 6) 1 515 (⟨RP w.params,177,{},#[],PySem.W.boot_drawn,386,os⟩:PySem.W.SharedT) (piecesOf (.s 9 10) en cE ⟨35,0,41,22⟩ .aO))=fun os=>some (.next,(⟨RQ w.params,245,{},#[],PySem.W.boot_drawn,503,os⟩:PySem.W.SharedT),cE,⟨91,0,94,71⟩):=.a
set_option maxHeartbeats 0 in
open PySem.W PySem.Calls in
theorem R6 (w:World):(fun os:OsState=>segRunT treeTable pg w 11 (.J 6) 1 599 (⟨RQ w.params,245,{},#[],PySem.W.boot_drawn,503,os⟩:PySem.W.SharedT) (piecesOf (.s 19 14) en cE ⟨91,0,94,71⟩ .aO))=fun os=>some (.next,(⟨RR w.params,342,{},#[],PySem.W.boot_drawn,634,os⟩:PySem.W.SharedT),cE,⟨144,0,153,21⟩):=.a
set_option maxHeartbeats 0 in
open PySem.W PySem.Calls in
theorem R7 (w:World):(fun os:OsState=>segRunT treeTable pg w 11 (.J 6) 1 650 (⟨RR w.params,342,{},#[],PySem.W.boot_drawn,634,os⟩:PySem.W.SharedT) (piecesOf (.s 33 2) en cE ⟨144,0,153,21⟩ .aO))=fun os=>some (.next,(⟨RS w.params,415,{},#[],PySem.W.boot_drawn,723,os⟩:PySem.W.SharedT),cE,⟨164,0,177,34⟩):=.a
set_option maxHeartbeats 0 in
open PySem.W PySem.Calls in
theorem R8 (w:World):(fun os:OsState=>segRunT treeTable pg w 11 (.J 6) 1 682 (⟨RS w.params,415,{},#[],PySem.W.boot_drawn,723,os⟩:PySem.W.SharedT) (piecesOf (.s 35 2) en cE ⟨164,0,177,34⟩ .aO))=fun os=>some (.next,(⟨RT w.params,491,{},#[],PySem.W.boot_drawn,824,os⟩:PySem.W.SharedT),cE,⟨193,0,209,20⟩):=.a
set_option maxHeartbeats 0 in
open PySem.W PySem.Calls in
theorem R9 (w:World):(fun os:OsState=>segRunT treeTable pg w 11 (.J 6) 1 893 (⟨RT w.params,491,{},#[],PySem.W.boot_drawn,824,os⟩:PySem.W.SharedT) (piecesOf (.s 37 11) en cE ⟨193,0,209,20⟩ .aO))=fun os=>some (.next,(⟨RU w.params,604,{},#[],PySem.W.boot_drawn,980,os⟩:PySem.W.SharedT),cE,⟨232,0,267,16⟩):=.a
set_option maxHeartbeats 0 in
open PySem.W PySem.Calls in
theorem Sa (w:World):(fun os:OsState=>segRunT treeTable pg w 11 (.J 6) 1 504 (⟨RU w.params,604,{},#[],PySem.W.boot_drawn,980,os⟩:PySem.W.SharedT) (piecesOf (.s 48 18) en cE ⟨232,0,267,16⟩ .aO))=fun os=>some (.next,(⟨RV w.params,707,{},#[],PySem.W.boot_drawn,1118,os⟩:PySem.W.SharedT),cE,⟨370,0,376,21⟩):=.a
set_option maxHeartbeats 0 in
open PySem.W PySem.Calls in
theorem QN (w:World):(fun os:OsState=>segRunT treeTable pg w 11 (.J 6) 1 415 (⟨RV w.params,707,{},#[],PySem.W.boot_drawn,1118,os⟩:PySem.W.SharedT) (piecesOf (.s 66 14) en cE ⟨370,0,376,21⟩ .aO))=fun os=>some (.next,.cB,cE,⟨482,0,499,37⟩):=.a
set_option maxHeartbeats 0 in
open PySem.W PySem.Calls in
theorem hf (w:World):(fun os:OsState=>pf treeTable pg w 11 (.J 6) 2 .cB ⟨doneF .next,cE,⟨482,0,499,37⟩,.aO⟩)=fun os=>some .cB:=.a
theorem hb:bd=(.s 0 5)++((.s 5 2)++((.s 7 2)++((.s 9 10)++((.s 19 14)++((.s 33 2)++((.s 35 2)++((.s 37 11)++((.s 48 18)++((.s 66 14)++[]))))))))):=.a
open PySem.W PySem.Calls in
theorem hr (w:World)(os:OsState):topRun treeTable pg w 11 (.J 6) (12+(1+(741+(520+(553+(515+(599+(650+(682+(893+(504+(415+2)))))))))))) ⟨boot_heap w.params,Array.mk [],boot_drawn,boot_toks,os⟩ (topStub pg)=some .aT:=by
 have e0:=Gu (congrFun (hp w) os)
 unfold SharedT.abs at e0
 dsimp only at e0
 rw [h0] at e0
 refine go_top e0 (piece_block (.x (hq w)) ?_)
 have ef:=wo (congrFun (hf w) os)
 unfold SharedT.abs at ef
 rw [hb]
 refine piece_app (.x (R1 w)) ?_
 refine piece_app (.x (R3 w)) ?_
 refine piece_app (.x (R4 w)) ?_
 refine piece_app (.x (R5 w)) ?_
 refine piece_app (.x (R6 w)) ?_
 refine piece_app (.x (R7 w)) ?_
 refine piece_app (.x (R8 w)) ?_
 refine piece_app (.x (R9 w)) ?_
 refine piece_app (.x (Sa w)) ?_
 refine piece_app (.x (QN w)) ?_
 exact piece_nil ef
set_option maxHeartbeats 0 in
open PySem.W PySem.Calls in
theorem Sb (w:World):(fun os:OsState=>staticsOk (importedModules pg.main.body) (boot_heap w.params) (absHeap (ub w.params) 791 {})&&namesBound pg (absHeap (ub w.params) 791 {})&&gensDone .aT&&laidKept (boot_heap w.params) (absHeap (ub w.params) 791 {}))=fun _=>true:=.a
set_option maxHeartbeats 0 in
open PySem.W PySem.Calls in
theorem RJ (w:World):(fun os:OsState=>(openSeen qv [] (importedModules pg.main.body) xt true .aT).1)=fun _=>(openGood qv []).1:=.a
set_option maxHeartbeats 0 in
open PySem.W PySem.Calls in
theorem Sd (w:World):(fun os:OsState=>(openSeen qv [] (importedModules pg.main.body) xt true .aT).2)=fun _=>(openGood qv []).2:=.a
set_option maxHeartbeats 0 in
open PySem.W PySem.Calls in
theorem Se (w:World):(fun os:OsState=>hk.obs .aT)=fun _=>hk.val w:=.a
theorem hl:PySem.W.LeftO lw.row.prog qv [] xt hk.obs hk.val 12250:=Oz (p:=pg) .a .a (fun _=>by kernel_rfl) (fun _=>by kernel_rfl) hr .a Sb RJ Sd Se
theorem ws:lw.wellSaid=true:=.a
end My
namespace L2
open PySem PySem.Spec PyProof.Rows
abbrev Key:=Sum Int Str
def vT:Key->Value->Bool
 | .inl k,v=>Value.isInt k v
 | .inr x,v=>Value.isStrOf x v
def QS (w:World):Key->Int
 | .inl k=>hashInt k
 | .inr x=>hashStr w x
theorem dC:∀{k:Key} {v:Value},vT k v=true->(∃i t,k=Sum.inl i/\v=Value.int i t)\/(∃x t,k=Sum.inr x/\v=Value.str x t)
 | .inl i,v,h=>by
  obtain⟨t,e⟩:=Value.isInt_shape (k:=i) (v:=v) h
  exact .inl ⟨i,t,rfl,e⟩
 | .inr x,v,h=>by
  obtain⟨t,e⟩:=Value.isStrOf_shape (x:=x) (v:=v) h
  exact .inr ⟨x,t,rfl,e⟩
theorem Ep (i:Int)(t:Tok):vT (.inl i) (.int i t)=true:=by simp [vT,Value.isInt]
theorem Er (x:Str)(t:Tok):vT (.inr x) (.str x t)=true:=by simp [vT,Value.isStrOf]
theorem LS (a b:Int):decide ((Sum.inl a:Key)=Sum.inl b)=(a == b):=by
 by_cases e:a=b
 ·subst e;simp
 ·have h:¬ (Sum.inl a:Key)=Sum.inl b:=fun q=>e (Sum.inl.inj q)
  rw [decide_eq_false h]
  exact (beq_eq_false_iff_ne.mpr e).symm
theorem LW (a b:Str):decide ((Sum.inr a:Key)=Sum.inr b)=decide (a=b):=by
 by_cases e:a=b
 ·subst e;simp
 ·have h:¬ (Sum.inr a:Key)=Sum.inr b:=fun q=>e (Sum.inr.inj q)
  rw [decide_eq_false h,decide_eq_false e]
theorem LU (a:Int)(b:Str):decide ((Sum.inl a:Key)=Sum.inr b)=false:=decide_eq_false (fun q=>nomatch q)
theorem LV (a:Str)(b:Int):decide ((Sum.inr a:Key)=Sum.inl b)=false:=decide_eq_false (fun q=>nomatch q)
def dE (prog:.am)(w:World):PySem.KeyKind prog w Key where
 is:=vT
 hash:=QS w
 inj:=fun v a b ha hb=>by
  rcases dC ha with ⟨i,t,rfl,rfl⟩ | ⟨x,t,rfl,rfl⟩
  ·rcases dC hb with ⟨j,u,rfl,e⟩ | ⟨y,u,rfl,e⟩
   ·injection e with e1 _;rw [e1]
   ·exact nomatch e
  ·rcases dC hb with ⟨j,u,rfl,e⟩ | ⟨y,u,rfl,e⟩
   ·exact nomatch e
   ·injection e with e1 _;rw [e1]
 byValue:=fun k v h=>by
  rcases dC h with ⟨i,t,rfl,rfl⟩ | ⟨x,t,rfl,rfl⟩<;>rfl
 pyHash:=fun hv h=>by
  rcases dC hv with ⟨i,t,rfl,rfl⟩ | ⟨x,t,rfl,rfl⟩
  ·exact wpAny_pyHash_int h
  ·exact wpAny_pyHash_str h
 eqBool:=fun hu hv h=>by
  rcases dC hu with ⟨i,t,rfl,rfl⟩ | ⟨x,t,rfl,rfl⟩
  ·rcases dC hv with ⟨j,u,rfl,rfl⟩ | ⟨y,u,rfl,rfl⟩
   ·rw [LS] at h;exact wpAny_eqBool_int h
   ·rw [LU] at h;exact SeqAt.EqAt.int_str i t y u _ _ _ _ h
  ·rcases dC hv with ⟨j,u,rfl,rfl⟩ | ⟨y,u,rfl,rfl⟩
   ·rw [LV] at h;exact SeqAt.EqAt.str_int x t j u _ _ _ _ h
   ·rw [LW] at h;exact wpAny_eqBool_str h
 «strs»:=fun k x t v h=>by
  rcases dC h with ⟨i,u,rfl,e⟩ | ⟨y,u,rfl,e⟩
  ·exact nomatch e
  ·injection e with e1 _
   subst e1
   cases v<;>rfl
theorem zR (prog:.am)(w:World)(i:Int)(t:Tok):(dE prog w).is (.inl i) (.int i t)=true:=Ep i t
theorem zS (prog:.am)(w:World)(x:Str)(t:Tok):(dE prog w).is (.inr x) (.str x t)=true:=Er x t
inductive V where
 |non | bl (b:Bool) | int (i:Int) | str (x:Str) | byt (b:Array UInt8) | flt (b:UInt64) | ref (a:Addr) | ty (n:String)
 deriving DecidableEq
def RelV:V->Value->Prop
 | .non,u=>u=Value.none
 | .bl b,u=>u=Value.bool b
 | .int i,u=>∃t,u=Value.int i t
 | .str x,u=>∃t,u=Value.str x t
 | .byt b,u=>∃t,u=Value.bytes b t
 | .flt b,u=>∃t,u=Value.float b t
 | .ref a,u=>u=Value.ref a
 | .ty n,u=>u=Value.type n
abbrev Vals:List V->List Value->Prop:=Paired RelV
theorem Vals.length {xs:List V}{us:.X}(r:Vals xs us):xs.length=us.length:=Paired.length r
theorem Vals.get:∀{xs:List V} {us:.X} {i:Nat} {x:V},Vals xs us->xs[i]? = some x->∃u,us[i]? = some u/\RelV x u
 |_,_,_,_,.nil,e=>by simp at e
 |_,_,0,_,.cons r _,e=>by simp at e;subst e;exact⟨_,rfl,r⟩
 |_,_,i+1,x,.cons _ t,e=>by
  obtain⟨u,h1,h2⟩:=Vals.get (i:=i) (x:=x) t (by simpa using e)
  exact⟨u,by simpa using h1,h2⟩
theorem Vals.append:∀{xs ys:List V} {us ws:.X},Vals xs us->Vals ys ws->Vals (xs++ys) (us++ws)
 |_,_,_,_,.nil,s=>s
 |_,_,_,_,.cons r t,s=>.cons r (Vals.append t s)
theorem Vals.take:∀{xs:List V} {us:.X} (n:Nat),Vals xs us->Vals (xs.take n) (us.take n)
 |_,_,0,_=>.nil
 |_,_,_+1,.nil=>.nil
 |_,_,n+1,.cons r t=>.cons r (Vals.take n t)
theorem Vals.drop:∀{xs:List V} {us:.X} (n:Nat),Vals xs us->Vals (xs.drop n) (us.drop n)
 |_,_,0,r=>r
 |_,_,_+1,.nil=>.nil
 |_,_,n+1,.cons _ t=>Vals.drop n t
def mL:Option V->Option Value->Prop
 |some v,some u=>RelV v u
 |none,none=>True
 |_,_=>False
def KV {κ:Type}:List (κ×V)->List (κ×Value)->Prop:=Paired fun (p:κ×V) (q:κ×Value)=>p.1=q.1/\RelV p.2 q.2
def kV:Key->V
 | .inl i=>.int i
 | .inr x=>.str x
inductive HO where
  |lst (xs:List V)
  |tup (xs:List V)
  |dK (kvs:.cs) | dT (kvs:.da)
  |set (S:Int->Bool) (n:Nat)
  |ins (C dx:Addr) (fs:List (Str×V))
  |own (x:Addr)
  |xd (fs:List (Str×V))
  |met (f x:Addr)
  |rng (lo hi:Int)
  |frz (o:Obj) (u:HO)
  |tbl (ps:.cK)
  |ext (φ:Heap->Prop)
abbrev Hp:=Addr->Option HO
def upd (H:Hp)(a:Addr)(o:HO):Hp:=fun b=>if b=a then some o else H b
theorem aQ {H:Hp}{a:Addr}{o:HO}:upd H a o a=some o:=by unfold upd;rw [if_pos rfl]
theorem aE {H:Hp}{a b:Addr}{o:HO}(h:b≠a):upd H a o b=H b:=by unfold upd;rw [if_neg h]
theorem OH {H:Hp}{a b:Addr}{o u:HO}(h:H a=some o)(h':H b=some u)(d:o≠u):a≠b:=by
 intro e;subst e;rw [h] at h';exact d (zaL h')
theorem bx {H:Hp}{a b:Addr}{o:HO}(h:H a=some o)(h':H b=none):a≠b:=by
 intro e;subst e;rw [h] at h';cases h'
section
variable (P:.am)(w:World)
def du (H:Hp)(h:Heap)(a:Addr):HO->Prop
 | .lst xs=>xs.length≤sizeLine/\∃(its:.X) (n:Nat),Vals xs its/\h.get? a=some { cls:=.type "list", data:=.seq its.toArray n }
 | .tup xs=>xs.length≤sizeLine/\∃its:List Value,Vals xs its/\IsTup h a its.toArray
 | .dK kvs=>kvs.length≤sizeLine/\(a == sysModules)=false/\∃vs,KV kvs vs/\h.DictOf (dE P w) a vs
 | .dT kvs=>kvs.length≤sizeLine/\(a == sysModules)=false/\∃xs:List .c5,
   Paired (fun (p:List Key×V) (q:List Key×Addr×Value)=>p.1=q.1/\H q.2.1=some (.tup (p.1.map kV))/\RelV p.2 q.2.2) kvs xs /\
   ∃o es ep,h.get? a=some o/\o.ExactDict/\o.data=.dict es ep/\es.toList=xs.map (entryOfKey (tupleKind (dE P w)))/\(xs.map (·.1)).Nodup
 | .set S n=>h.SetOf (intKind P w) a S n
 | .ins C dx fs=>H dx=some (.own a)/\fs.length≤1000/\dx≠a/\h.get? a=some (PySem.W.instObj C dx) /\
   ∃mA,h.Ns1 dx mA/\(∀f,mL (fs.lookup f) (mA f))/\PySem.Within mA (fs.map (·.1))
 | .own _=>∃o,h.get? a=some o
 | .xd fs=>∃mA,h.Ns1 a mA/\∀f,mL (fs.lookup f) (mA f)
 | .rng lo hi=>∃t u v,h.get? a=some { cls:=.type "range", data:=.fields #[.int lo t,.int hi u,.int 1 v] }
 | .frz o u=>h.get? a=some o/\du H h a u
 | .tbl ps=>h.get? a=some { cls:=.none,data:=.fields ps }
 | .met f x=>h.get? a=some (PySem.W.methodObj (.c f) (.c x))
 | .ext φ=>φ h/\(∃o,h.get? a=some o)/\∀h1 h2:Heap,φ h1->(∀o,h1.get? a=some o->h2.get? a=some o)->φ h2
def ly (H:Hp)(h:Heap):Prop:=∀a o,H a=some o->du P w H h a o
end
section
variable {P:.am}{w:World}{H H':Hp}{h h':Heap}{a:Addr}{o:HO}
theorem du.lt (x:du P w H h a o):a<h.objs.size:=by
 cases o with
 |lst xs=>obtain⟨_,_,_,_,e⟩:=x;exact Heap.lt_size e
 |tup xs=>obtain⟨_,_,_,p⟩:=x;exact p.lt
 |dK kvs=>obtain⟨_,_,_,_,o,_,_,e,_⟩:=x;exact Heap.lt_size e
 |dT kvs=>obtain⟨_,_,_,_,o,_,_,e,_⟩:=x;exact Heap.lt_size e
 |set S n=>obtain⟨o,_,_,_,e,_⟩:=x;exact Heap.lt_size e
 |ins C dx fs=>obtain⟨_,_,_,e,_⟩:=x;exact Heap.lt_size e
 |own y=>obtain⟨_,e⟩:=x;exact Heap.lt_size e
 |xd fs=>obtain⟨_,⟨_,_,_,e,_⟩,_⟩:=x;exact Heap.lt_size e
 |rng lo hi=>obtain⟨_,_,_,e⟩:=x;exact Heap.lt_size e
 |frz ob u=>obtain⟨e,_⟩:=x;exact Heap.lt_size e
 |tbl ps=>exact Heap.lt_size (show h.get? a=some _ from x)
 |met f y=>exact Heap.lt_size (show h.get? a=some _ from x)
 |ext φ=>obtain⟨_,⟨_,e⟩,_⟩:=x;exact Heap.lt_size e
theorem Paired.mapP {α β:Type}{F G:α->β->Prop}:∀{l₁:List α} {l₂:List β},Paired F l₁ l₂->(∀a b,F a b->G a b)->Paired G l₁ l₂
 |_,_,.nil,_=>.nil
 |_,_,.cons r t,f=>.cons (f _ _ r) (Paired.mapP t f)
theorem du.stay (x:du P w H h a o)(k:∀b u,(b=a\/H b=some (.own a))->h.get? b=some u->h'.get? b=some u)
  (ho:∀b,H b=some (.own a)->H' b=some (.own a)) (ht:∀b xs,H b=some .eJ->H' b=some .eJ):du P w H' h' a o:=by
 induction o with
 |lst xs=>obtain⟨z,its,n,r,e⟩:=x;exact⟨z,its,n,r,k _ _ .cf e⟩
 |tup xs=>obtain⟨z,its,r,ob,e,c⟩:=x;exact⟨z,its,r,ob,k _ _ .cf e,c⟩
 |dK kvs=>obtain⟨z,y,vs,r,ob,es,ep,e,c⟩:=x;exact⟨z,y,vs,r,ob,es,ep,k _ _ .cf e,c⟩
 |dT kvs =>
  obtain⟨z,y,xs,r,ob,es,ep,e,c⟩:=x
  exact⟨z,y,xs,Paired.mapP r fun p q z=>⟨z.1,ht _ _ z.2.1,z.2.2⟩,ob,es,ep,k _ _ .cf e,c⟩
 |set S n=>obtain⟨ob,es,ep,t,e,c⟩:=x;exact⟨ob,es,ep,t,k _ _ .cf e,c⟩
 |ins C dx fs =>
  obtain⟨d,z,ne,e,mA,⟨od,es,ep,e2,c⟩,r⟩:=x
  exact⟨ho _ d,z,ne,k _ _ .cf e,mA,⟨od,es,ep,k _ _ (.inr d) e2,c⟩,r⟩
 |own y=>obtain⟨ob,e⟩:=x;exact⟨ob,k _ _ .cf e⟩
 |xd fs=>obtain⟨mA,⟨od,es,ep,e,c⟩,r⟩:=x;exact⟨mA,⟨od,es,ep,k _ _ .cf e,c⟩,r⟩
 |rng lo hi=>obtain⟨t,u,v,e⟩:=x;exact⟨t,u,v,k _ _ .cf e⟩
 |frz ob u ih=>obtain⟨e,q⟩:=x;exact⟨k _ _ .cf e,ih q⟩
 |tbl ps =>
  have e:h.get? a=some { cls:=.none,data:=.fields ps }:=x
  show h'.get? a=some { cls:=.none,data:=.fields ps }
  exact k a _ .cf e
 |met f y =>
  have e:h.get? a=some (PySem.W.methodObj (.c f) (.c y)):=x
  show h'.get? a=some (PySem.W.methodObj (.c f) (.c y))
  exact k a _ .cf e
 |ext φ=>obtain⟨p,⟨o,e⟩,st⟩:=x;exact⟨st _ _ p fun o q=>k _ _ .cf q,⟨o,k _ _ .cf e⟩,st⟩
theorem ly.lt (x:.e7)(e:H a=some o):a<h.objs.size:=(x a o e).lt
theorem ly.fresh (x:.e7)(e:h.objs.size≤a):H a=none:=by
 cases q:H a with
 |none=>rfl
 |some u=>exact absurd (zat (x.lt q) e) (za1 _)
theorem ly.kept (x:.e7)(k:∀b u,h.get? b=some u->h'.get? b=some u):ly P w H h':=fun a o e =>
 (x a o e).stay (fun b u _ q=>k b u q) (fun _ q=>q) fun _ _ q=>q
theorem ly.laid (x:.e7)(k:∀b u,h.get? b=some u->h'.get? b=some u)(hp:h.objs.size≤a)(new:du P w (upd H a o) h' a o):ly P w (upd H a o) h':=fun b u e=>by
 have hn:=x.fresh hp
 by_cases hb:b=a
 ·subst hb;rw [aQ] at e;cases e;exact new
 ·rw [aE hb] at e
  exact (x b u e).stay (fun c v _ q=>k c v q) (fun c q=>by rw [aE (bx q hn)];exact q) fun c xs q=>by rw [aE (bx q hn)];exact q
end
def Rd (H:Hp)(a:Addr)(u:HO):Prop:=H a=some u\/∃o,H a=some (.frz o u)
theorem Rd.ok {P:.am}{w:World}{H:Hp}{h:Heap}{a:Addr}{u:HO}(r:Rd H a u)(x:.e7):du P w H h a u:=by
 rcases r with r | ⟨o,r⟩
 ·exact x a u r
 ·obtain⟨_,q⟩:=x a _ r
  exact q
def NJ:Option HO->Prop
 |some (.lst _)=>True
 |some (.dK _)=>True
 |some (.dT _)=>True
 |some (.set _ _)=>True
 |some (.ins _ _ _)=>True
 |some (.ext _)=>True
 |_=>False
section
variable {P:.am}{w:World}{H:Hp}{h h':Heap}{x e:Addr}{o':HO}
theorem ly.write (ok:.e7)(mu:NJ (H x))(he:e=x\/H e=some (.own x))(k:∀b u,b≠e->h.get? b=some u->h'.get? b=some u)(heo:∃u,h'.get? e=some u)
  (new:du P w (upd H x o') h' x o'):ly P w (upd H x o') h':=fun b u q=>by
 have nown:∀c y,H c=some (.own y)->c≠x:=fun c y r z=>by subst z;rw [r] at mu;exact mu
 have ntup:∀c xs,H c=some .eJ->c≠x:=fun c xs r z=>by subst z;rw [r] at mu;exact mu
 by_cases hb:b=x
 ·subst hb;rw [aQ] at q;cases q;exact new
 ·rw [aE hb] at q
  by_cases hbe:b=e
  ·have q':H b=some (.own x):=by
    rcases he with z | z
    ·exact absurd (hbe.trans z) hb
    ·rw [hbe];exact z
   rw [q] at q';cases q'
   obtain⟨v,hv⟩:=heo
   exact⟨v,by rw [hbe];exact hv⟩
  ·refine (ok b u q).stay (fun c v hc r=>k c v ?_ r) (fun c r=>by rw [aE (nown c b r)];exact r) fun c xs r=>by rw [aE (ntup c xs r)];exact r
   rcases hc with rfl | hc
   ·exact hbe
   ·rintro rfl
    rcases he with z | z
    ·exact nown c b hc z
    ·rw [hc] at z;cases z;exact hb rfl
end
structure Un (fs ex:.aj)(H H':Hp)(h h':Heap):Prop where
 keep:∀b o,h.get? b=some o->H b=none->b∉fs->b∉ex->h'.get? b=some o
 slot:∀b o,h.get? b=some o->H b=none->b∈fs->b∉ex->∃sl,h'.get? b=some { o with slots:=sl }
 free:∀b o,h.get? b=some o->H b=none->b∉ex->H' b=none
 there:∀b o,h.get? b=some o->b∉ex->∃o',h'.get? b=some o'
 tups:∀b xs,H b=some .eJ->H' b=some .eJ
 frzs:∀b o u,H b=some (.frz o u)->H' b=some (.frz o u)
 tbls:∀b ps,H b=some (.tbl ps)->∃more,H' b=some (.tbl (ps++more))
section
variable {fs fs' ex ex':.aj}{H H1 H2:Hp}{h h1 h2 h':Heap}{a x e:Addr}{o:HO}
theorem Un.any (u:Un fs ex H H1 h h1){b:Addr}{ob:Obj}(q:h.get? b=some ob)(n:H b=none)(hx:b∉ex):∃sl,h1.get? b=some { ob with slots:=sl }:=by
 by_cases hb:b∈fs
 ·exact u.slot b ob q n hb hx
 ·exact⟨ob.slots,u.keep b ob q n hb hx⟩
theorem Un.kept (k:∀b u,h.get? b=some u->h'.get? b=some u):Un fs ex H H h h':=
 ⟨fun b ob q _ _ _=>k b ob q,fun b ob q _ _ _=>⟨ob.slots,k b ob q⟩,fun _ _ _ n _=>n,fun b ob q _=>⟨ob,k b ob q⟩,fun _ _ q=>q,fun _ _ _ q=>q,fun _ ps q=>⟨#[],by rw [q];simp⟩⟩
theorem Un.refl:Un fs ex H H h h:=Un.kept fun _ _ q=>q
theorem Un.laid (k:∀b u,h.get? b=some u->h'.get? b=some u)(hp:h.objs.size≤a)(hn:H a=none):Un fs ex H (upd H a o) h h' where
 keep:=fun b u q _ _ _=>k b u q
 slot:=fun b u q _ _ _=>⟨u.slots,k b u q⟩
 free:=fun b u q n _=>by rw [aE (zaq (zat (Heap.lt_size q) hp))];exact n
 there:=fun b u q _=>⟨u,k b u q⟩
 tups:=fun b xs q=>by rw [aE (bx q hn)];exact q
 frzs:=fun b u xs q=>by rw [aE (bx q hn)];exact q
 tbls:=fun b ps q=>⟨#[],by rw [aE (bx q hn),q];simp⟩
theorem Un.write (mu:NJ (H x))(he:e=x\/H e=some (.own x))(k:∀b u,b≠e->h.get? b=some u->h'.get? b=some u)(heo:∃u,h'.get? e=some u):Un fs ex H (upd H x o) h h':=by
 have hx:∀b,H b=none->b≠x:=fun b n z=>by subst z;rw [n] at mu;exact mu
 have hb:∀b,H b=none->b≠e:=fun b n z=>by
  subst z
  rcases he with r | r
  ·exact hx b n r
  ·rw [n] at r;cases r
 have hm:∀b u,H b=some u->¬ NJ (some u)->b≠x:=fun b u q nm z=>by subst z;rw [q] at mu;exact nm mu
 refine⟨fun b u q n _ _=>k b u (hb b n) q,fun b u q n _ _=>⟨u.slots,k b u (hb b n) q⟩,fun b u q n _=>by rw [aE (hx b n)];exact n,fun b u q _=>?_,
  fun b xs q=>by rw [aE (hm b _ q fun z=>z)];exact q,fun b u xs q=>by rw [aE (hm b _ q fun z=>z)];exact q,fun b ps q=>⟨#[],by rw [aE (hm b _ q fun z=>z),q];simp⟩⟩
 by_cases hbe:b=e
 ·subst hbe;exact heo
 ·exact⟨u,k b u hbe q⟩
end
def MY (h:Heap)(H:Hp):List Addr:=(List.range h.objs.size).filter fun a=>(H a).isSome
def xb (h:Heap)(H:Hp):Heap:=PySem.W.hideAll h (MY h H)
theorem Ej (h:Heap)(H:Hp):(xb h H).objs.size=h.objs.size:=PySem.W.hideAll_size _ _
theorem Gx {h:Heap}{H:Hp}{b:Addr}{o:Obj}(e:h.get? b=some o)(n:H b=none):(xb h H).get? b=some o:=
 PySem.W.hideAll_get _ e fun hm=>by
  have q:(H b).isSome=true:=(za4.mp hm).2
  rw [n] at q;simp at q
theorem JB {h:Heap}{H:Hp}{b:Addr}{o:Obj}(e:(xb h H).get? b=some o):h.get? b=some o/\H b=none:=by
 have e':h.get? b=some o:=PySem.W.of_hideAll (MY h H) e
 refine⟨e',?_⟩
 cases q:H b with
 |none=>rfl
 |some x =>
  have hm:b∈MY h H:=List.mem_filter.mpr ⟨List.mem_range.mpr (Heap.lt_size e'),by simp [q]⟩
  have z:(xb h H).get? b=none:=PySem.W.hideAll_none (MY h H) hm
  rw [z] at e;cases e
structure Mod (K:.l)(mg:.G)(base:Heap):Prop where
 kin:K.In base
 glob:base.Ns mainGlobals mg
 blt:∃mb,base.Ns builtinsNs mb/\∀x:Str,x≠"__name__"->mb x=bootBuiltins x
 nolimit:base.NoLimit
structure Cx where
 prog:Program
 w:World
 K:PySem.W.Frag
 mg:Str->Option Value
 base:Heap
 A:Around
 N:List Str
 Y8:Shared
 Y9:Hp
 env:Env
 outer:List Env
 stack:List Env
 ex:List Addr
 fn:Str->Bool
 calm:Bool
 pn:List (Addr×Obj)
 xe:Value->Shared->Prop
def vL (l:.e4):List Addr:=l.filterMap (·.frame)
abbrev Cx.fs (X:Cx):List Addr:=vL X.outer
def Na (sc:Scope)(x:Str):Prop:=sc.names.lookup x=some .local\/sc.names.lookup x=some .cell\/sc.names.lookup x=some .free
def Loc (sc:Scope)(x:Str):Prop:=sc.names.lookup x=some .local\/sc.names.lookup x=some .cell
def Look (env:Env)(h:Heap)(m:.G)(x:Str)(u:Value):Prop:=
 (env.kindOf x=some .local/\m x=some u)\/((env.kindOf x=some .cell\/env.kindOf x=some .free)/\∃c,env.cells.lookup x=some c/\h.IsCell c (some u))
structure Cx.Ok (X:Cx):Prop where
 mod:Mod X.K X.mg X.base
 kind:X.env.scope.kind=.function
 glob:X.env.globals=mainGlobals
 blt:X.env.builtins=builtinsNs
 above:X.Y8.heap.objs.size≤X.env.locals
 inj:∀x y c,X.env.cells.lookup x=some c->X.env.cells.lookup y=some c->x=y
 has:∀x,(X.env.kindOf x=some .cell\/X.env.kindOf x=some .free)->∃c,X.env.cells.lookup x=some c
 cab:∀x c,X.fn x=true->X.env.cells.lookup x=some c->X.Y8.heap.objs.size≤c
 hd:X.calm=true->X.A.handled=none
 frames:X.A.frames=some X.stack
 stk:X.stack=X.outer\/(X.stack=X.env::X.outer/\X.env.frame=some X.env.locals)
 exf:∀b∈X.ex,b≠X.env.locals/\∀x c,X.env.cells.lookup x=some c->c≠b
 bs:∀b o,X.base.get? b=some o->X.Y8.heap.get? b=some o/\X.Y9 b=none
 bsz:X.base.objs.size≤X.Y8.heap.objs.size
 noex:∀b o,X.base.get? b=some o->b∉X.ex
 exfs:∀b∈X.ex,b∉X.fs
 funs:X.Y8.heap.FunFrames X.base X.outer
 frf:∀b∈X.fs,X.Y9 b=none
structure Inv (X:Cx)(pins:.s)(σ:List (Option V))(H:Hp)(s:Shared):Prop where
 ok:X.Ok
 os:s.os=X.Y8.os
 bare:AllBare s.gens
 base:Un X.fs X.ex X.Y9 H X.Y8.heap s.heap
 loc:∃m,s.heap.Ns X.env.locals m/\∀(i:Nat) (x:Str) (v:V),X.N[i]? = some x->σ[i]? = some .dw->Na X.env.scope x->∃u,RelV v u/\Look X.env s.heap m x u
 cell:∀x c,X.env.cells.lookup x=some c->∃v,s.heap.IsCell c v
 free:H X.env.locals=none
 freeC:∀x c,X.env.cells.lookup x=some c->H c=none
 pin:∀p∈X.pn++pins,s.heap.get? p.1=some p.2/\H p.1=none/\p.1≠X.env.locals/\p.1∉X.fs/\∀v,p.2.data≠.cell v
 hok:ly X.prog X.w H s.heap
 len:σ.length=X.N.length
section
variable {X:Cx}{pins:.s}{σ:List (Option V)}{H H':Hp}{s:Shared}{h':Heap}
theorem Cx.Ok.nofr (ok:X.Ok){b:Addr}{o:Obj}(e:X.base.get? b=some o):b∉X.fs:=fun hb=>by
 have:=(ok.funs.mem hb).1
 rw [e] at this;cases this
theorem Inv.bs (I:.u):∀b o,X.base.get? b=some o->s.heap.get? b=some o/\H b=none:=fun b o e =>
 ⟨I.base.keep b o (I.ok.bs b o e).1 (I.ok.bs b o e).2 (I.ok.nofr e) (I.ok.noex b o e),I.base.free b o (I.ok.bs b o e).1 (I.ok.bs b o e).2 (I.ok.noex b o e)⟩
theorem Inv.bk (I:.u):∀b o,X.base.get? b=some o->s.heap.get? b=some o:=fun b o e=>(I.bs b o e).1
theorem Inv.mod (I:.u):Mod X.K X.mg X.base:=I.ok.mod
theorem Inv.kIn (I:.u):X.K.In s.heap:=I.ok.mod.kin.keeps I.bk
theorem Inv.lt (I:.u):X.env.locals<s.heap.objs.size:=let ⟨_,hn,_⟩:=I.loc;hn.lt
theorem Inv.sz (I:.u):X.Y8.heap.objs.size≤s.heap.objs.size:=zaA I.ok.above (zbN I.lt)
theorem Inv.nofs (I:.u){a:Addr}(h:s.heap.objs.size≤a):a∉X.fs:=fun hb=>by
 obtain⟨_,o,ho,_⟩:=I.ok.funs.mem hb
 exact absurd (zat (Heap.lt_size ho) (zaA I.sz h)) (za1 _)
theorem Inv.cne (I:.u):∀x c,X.env.cells.lookup x=some c->c≠X.env.locals:=fun x c e z=>by
 obtain⟨v,o,ho,hd⟩:=I.cell x c e
 obtain⟨m,⟨o',es,ep,ho',hd',_⟩,_⟩:=I.loc
 rw [z,ho'] at ho;cases ho;rw [hd'] at hd;cases hd
theorem Inv.funs (I:.u):s.heap.FunFrames X.base X.outer:=by
 have all:∀(l:.e4),(∀b∈vL l,b∈X.fs)->X.Y8.heap.FunFrames X.base l->s.heap.FunFrames X.base l:=by
  intro l
  induction l with
  |nil=>intro _ _;trivial
  |cons env r ih =>
   intro hs hl
   obtain⟨hk,⟨L,o,hf,hn,ho,hd⟩,hr⟩:=hl
   have hL:L∈X.fs:=hs L (by unfold vL;rw [List.filterMap_cons,hf];exact List.mem_cons_self)
   obtain⟨sl,e⟩:=I.base.slot L o ho (I.ok.frf L hL) hL fun z=>I.ok.exfs L z hL
   exact⟨hk,⟨L,_,hf,hn,e,hd⟩,ih (fun b hb=>hs b (by unfold vL;rw [List.filterMap_cons,hf];exact List.mem_cons_of_mem _ hb)) hr⟩
 exact all X.outer (fun _ hb=>hb) I.ok.funs
theorem Inv.stack (I:.u):s.heap.FunFrames X.base X.stack:=by
 rcases I.ok.stk with e | ⟨e,hf⟩
 ·rw [e];exact I.funs
 ·rw [e]
  obtain⟨m,hn,_⟩:=I.loc
  refine .cons (by rw [I.ok.kind];decide) hf hn ?_ I.funs
  exact Heap.get?_none_of_le (zaA I.ok.bsz I.ok.above)
theorem Inv.stkSub (I:.u):∀b∈vL X.stack,b∈X.env.locals::X.fs:=fun b hb=>by
 rcases I.ok.stk with e | ⟨e,hf⟩
 ·rw [e] at hb;exact zae _ hb
 ·rw [e] at hb
  unfold vL at hb
  rw [List.filterMap_cons,hf] at hb
  exact hb
theorem Inv.stkFree (I:.u):∀b∈vL X.stack,H b=none:=fun b hb=>by
 rcases zan.mp (I.stkSub b hb) with e | hb
 ·rw [e];exact I.free
 ·obtain⟨_,o,ho,_⟩:=I.ok.funs.mem hb
  exact I.base.free b o ho (I.ok.frf b hb) fun z=>I.ok.exfs b z hb
theorem Inv.step {g':Array GenState}{t':Nat}{d':Drawn}{ch:.aj}(I:.u)
  (hch:∀b∈ch,(b∈X.ex\/X.Y8.heap.objs.size≤b)/\b≠X.env.locals/\(∀x c,X.env.cells.lookup x=some c->c≠b)/\∀p∈X.pn++pins,p.1≠b)
  (keep:∀b o,b≠X.env.locals->b∉X.fs->b∉ch->s.heap.get? b=some o->H b=none->h'.get? b=some o)
  (slot:∀b o,b≠X.env.locals->b∈X.fs->b∉ch->s.heap.get? b=some o->H b=none->∃sl,h'.get? b=some { o with slots:=sl }) (free:∀b o,b∉ch->s.heap.get? b=some o->H b=none->H' b=none)
  (there:∀b o,b∉ch->s.heap.get? b=some o->∃o',h'.get? b=some o')
  (tups:∀b xs,H b=some .eJ->H' b=some .eJ) (frzs:∀b o u,H b=some (.frz o u)->H' b=some (.frz o u)) (tbls:∀b ps,H b=some (.tbl ps)->∃more,H' b=some (.tbl (ps++more)))
  (ns:∀m,s.heap.Ns X.env.locals m->h'.Ns X.env.locals m) (hok:ly X.prog X.w H' h') (hg:AllBare g'):
  Inv X pins σ H' { s with heap:=h',gens:=g',drawn:=d',toks:=t' }:=by
 have neL:∀b o,X.Y8.heap.get? b=some o->b≠X.env.locals:=fun b o e=>zaq (zat .aF I.ok.above)
 have neC:∀b o,X.Y8.heap.get? b=some o->b∉X.ex->b∉ch:=fun b o e hx hb=>by
  rcases (hch b hb).1 with z | z
  ·exact hx z
  ·exact absurd (zat .aF z) (za1 _)
 have cellK:∀x c,X.env.cells.lookup x=some c->∀v,s.heap.IsCell c v->h'.IsCell c v:=fun x c e v hq__=>by
  obtain⟨o,ho,hd⟩:=hq__
  have nch:c∉ch:=fun z=>(hch c z).2.2.1 x c e rfl
  by_cases hc:c∈X.fs
  ·obtain⟨sl,q⟩:=slot c o (I.cne x c e) hc nch ho (I.freeC x c e)
   exact⟨_,q,hd⟩
  ·exact⟨o,keep c o (I.cne x c e) hc nch ho (I.freeC x c e),hd⟩
 refine⟨I.ok,I.os,hg,⟨fun b o e n hb hx=>?_,fun b o e n hb hx=>?_,fun b o e n hx=>?_,fun b o e hx=>?_,fun b xs e=>tups b xs (I.base.tups b xs e),fun b o xs e=>frzs b o xs (I.base.frzs b o xs e),fun b ps e=>?_⟩,?_,fun x c e=>?_,?_,fun x c e=>?_,fun p hp=>?_,hok,I.len⟩
 ·exact keep b o (neL b o e) hb (neC b o e hx) (I.base.keep b o e n hb hx) (I.base.free b o e n hx)
 ·obtain⟨sl,e1⟩:=I.base.slot b o e n hb hx
  obtain⟨sl',e2⟩:=slot b _ (neL b o e) hb (neC b o e hx) e1 (I.base.free b o e n hx)
  exact⟨sl',e2⟩
 ·obtain⟨o',e1⟩:=I.base.there b o e hx
  exact free b o' (neC b o e hx) e1 (I.base.free b o e n hx)
 ·obtain⟨o',e1⟩:=I.base.there b o e hx
  exact there b o' (neC b o e hx) e1
 ·obtain⟨m1,e1⟩:=I.base.tbls b ps e
  obtain⟨m2,e2⟩:=tbls b _ e1
  exact⟨m1++m2,by rw [e2,Array.append_assoc]⟩
 ·obtain⟨m,hn,hl⟩:=I.loc
  refine⟨m,ns m hn,fun i x v e1 e2 e3=>?_⟩
  obtain⟨u,r,l⟩:=hl i x v e1 e2 e3
  refine⟨u,r,?_⟩
  rcases l with l | ⟨k,c,e,z⟩
  ·exact .inl l
  ·exact .inr ⟨k,c,e,cellK x c e _ z⟩
 ·obtain⟨v,z⟩:=I.cell x c e
  exact⟨v,cellK x c e v z⟩
 ·obtain⟨m,⟨o,_,_,ho,_⟩,_⟩:=I.loc
  exact free _ o (fun z=>(hch _ z).2.1 rfl) ho I.free
 ·obtain⟨v,o,ho,hd⟩:=I.cell x c e
  exact free c o (fun z=>(hch c z).2.2.1 x c e rfl) ho (I.freeC x c e)
 ·obtain⟨e,n,ne,nf,d⟩:=I.pin p hp
  have nch:p.1∉ch:=fun z=>(hch p.1 z).2.2.2 p hp rfl
  exact⟨keep p.1 p.2 ne nf nch e n,free p.1 p.2 nch e n,ne,nf,d⟩
theorem Inv.un {t':Nat}(I:.u)(u:Un X.fs [] H H' s.heap h')(hok:ly X.prog X.w H' h'):Inv X pins σ H' { s with heap:=h',toks:=t' }:=by
 obtain⟨m,⟨o,es,ep,ho,r⟩,_⟩:=id I.loc
 obtain⟨sl,hL⟩:=u.any ho I.free .h
 exact I.step (g':=s.gens) (d':=s.drawn) (ch:=[]) (fun _ z=>nomatch z) (fun b o _ hb _ e n=>u.keep b o e n hb .h) (fun b o _ hb _ e n=>u.slot b o e n hb .h) (fun b o _ e n=>u.free b o e n .h) (fun b o _ e=>u.there b o e .h) u.tups u.frzs u.tbls (fun m' hm=>by
  obtain⟨o',es',ep',ho',r'⟩:=hm
  rw [ho] at ho';cases ho'
  exact⟨_,es',ep',hL,r'⟩) hok I.bare
theorem Inv.call {g':Array GenState}{t':Nat}{d':Drawn}{ch:.aj}(I:.u)(u:Un (vL X.stack) ch H H' s.heap h')(hok:ly X.prog X.w H' h')(hg:AllBare g')
  (hch:∀b∈ch,(b∈X.ex\/X.Y8.heap.objs.size≤b)/\b≠X.env.locals/\(∀x c,X.env.cells.lookup x=some c->c≠b)/\∀p∈X.pn++pins,p.1≠b):
  Inv X pins σ H' { s with heap:=h',gens:=g',drawn:=d',toks:=t' }:=by
 obtain⟨m,⟨o,es,ep,ho,r⟩,_⟩:=id I.loc
 obtain⟨sl,hL⟩:=u.any ho I.free fun z=>(hch _ z).2.1 rfl
 exact I.step (ch:=ch) hch (fun b o hL hb hc e n=>u.keep b o e n (fun z=>(zan.mp (I.stkSub b z)).elim hL hb) hc) (fun b o _ _ hc e n=>u.any e n hc) (fun b o hc e n=>u.free b o e n hc) (fun b o hc e=>u.there b o e hc) u.tups u.frzs u.tbls (fun m' hm=>by
  obtain⟨o',es',ep',ho',r'⟩:=hm
  rw [ho] at ho';cases ho'
  exact⟨_,es',ep',hL,r'⟩) hok hg
theorem Inv.turned {t':Nat}{it:Addr}(I:.u)(k:∀b o,b≠it->s.heap.get? b=some o->h'.get? b=some o)(hn:H it=none)(hL:it≠X.env.locals)
  (h1:it∈X.ex\/X.Y8.heap.objs.size≤it) (h2:∀x c,X.env.cells.lookup x=some c->c≠it) (h3:∀p∈X.pn++pins,p.1≠it):Inv X pins σ H { s with heap:=h',toks:=t' }:=by
 have nit:∀b u,H b=some u->b≠it:=fun b u e z=>by rw [z,hn] at e;cases e
 refine I.step (g':=s.gens) (d':=s.drawn) (ch:=[it]) (fun b hb=>?_) (fun b o _ _ hc e _=>k b o (fun z=>hc (by simp [z])) e) (fun b o _ _ hc e _=>⟨o.slots,k b o (fun z=>hc (by simp [z])) e⟩) (fun _ _ _ _ n=>n)
  (fun b o hc e=>⟨o,k b o (fun z=>hc (by simp [z])) e⟩) (fun _ _ e=>e) (fun _ _ _ e=>e) (fun b ps e=>⟨#[],by rw [e];simp⟩) (fun m hm=>?_) (fun b u e=>?_) I.bare
 ·have e:b=it:=by simpa using hb
  subst e
  exact⟨h1,hL,h2,h3⟩
 ·obtain⟨o,es,ep,ho,r⟩:=hm
  exact⟨o,es,ep,k _ o (Ne.symm hL) ho,r⟩
 ·refine (I.hok b u e).stay (fun c v hc q=>k c v ?_ q) (fun _ q=>q) fun _ _ q=>q
  rcases hc with z | z
  ·rw [z];exact nit b u e
  ·exact nit c _ z
theorem Inv.tok (I:.u)(t:Nat):Inv X pins σ H { s with toks:=t }:=I.un (h':=s.heap) (t':=t) Un.refl I.hok
theorem Inv.kept {t':Nat}(I:.u)(k:∀b u,s.heap.get? b=some u->h'.get? b=some u):Inv X pins σ H { s with heap:=h',toks:=t' }:=I.un (Un.kept k) (I.hok.kept k)
theorem Inv.laid {a:Addr}{o:HO}{t':Nat}(I:.u)(k:∀b u,s.heap.get? b=some u->h'.get? b=some u)(hp:s.heap.objs.size≤a)(new:du X.prog X.w (upd H a o) h' a o):
  Inv X pins σ (upd H a o) { s with heap:=h',toks:=t' }:=I.un (Un.laid k hp (I.hok.fresh hp)) (I.hok.laid k hp new)
theorem Inv.write {x e:Addr}{o:HO}{t':Nat}(I:.u)(mu:NJ (H x))(he:e=x\/H e=some (.own x))(k:∀b u,b≠e->s.heap.get? b=some u->h'.get? b=some u)(heo:∃u,h'.get? e=some u)
  (new:du X.prog X.w (upd H x o) h' x o):Inv X pins σ (upd H x o) { s with heap:=h',toks:=t' }:=I.un (Un.write mu he k heo) (I.hok.write mu he k heo new)
theorem Inv.pins_of {pins':.s}(I:.u)(h:∀p∈pins',s.heap.get? p.1=some p.2/\H p.1=none/\p.1≠X.env.locals/\p.1∉X.fs/\∀v,p.2.data≠.cell v):Inv X pins' σ H s:=
 ⟨I.ok,I.os,I.bare,I.base,I.loc,I.cell,I.free,I.freeC,fun p hp=>(zaB.mp hp).elim (fun z=>I.pin p (zbd _ z)) (h p),I.hok,I.len⟩
theorem zV {N:.Y}(hN:N.Nodup){i j:Nat}{x:Str}(a:N[i]? = some x)(b:N[j]? = some x):i=j:=by
 obtain⟨h1,e1⟩:=zas.mp a
 obtain⟨h2,e2⟩:=zas.mp b
 exact (List.getElem_inj hN).mp (e1.trans e2.symm)
theorem pV {M:Model}{A:Around}{E:.m}{i:Nat}{x:Str}{v:V}{u:Value}{Q:.dR}(I:.u)(hN:X.N.Nodup)(hi:X.N[i]? = some x)(hx:.e9)(r:RelV v u)
  (h:∀s',Inv X pins (σ.set i .dw) H s'->(∃a,Heap.SameBut a s.heap s'.heap/\(a=X.env.locals\/X.env.cells.lookup x=some a))->Q () s') (hf:X.fn x=true\/X.env.scope.names.lookup x=some .local:=by first | exact .inl rfl | exact .inr rfl | assumption):wpAny M A (storeName X.env x u) Q E s:=by
 obtain⟨m,hn,hl⟩:=id I.loc
 have hcls:(X.env.scope.kind == .class||(X.env.scope.kind == .module&&X.env.locals != X.env.globals))=false:=by rw [I.ok.kind];rfl
 have hiσ:i<σ.length:=by rw [I.len];exact (zas.mp hi).1
 have cne:=I.cne
 have tracked:∀{a:Addr} {h':Heap},(∃o,s.heap.get? a=some o/\H a=none)->Heap.SameBut a s.heap h'->ly X.prog X.w H h':=fun {a h'} ha hs b ob e=>by
  obtain⟨_,_,hfree⟩:=ha
  refine (I.hok b ob e).stay (fun c w' hc q=>(hs.2 c ?_).trans q) (fun _ q=>q) fun _ _ q=>q
  rintro rfl
  rcases hc with rfl | hc
  ·rw [hfree] at e;cases e
  ·rw [hfree] at hc;cases hc
 rcases hx with hk | hk
 ·refine wpAny_storeName_local hk hn (fun h' hn' hs=>?_) hcls
  obtain⟨oL,_,_,hoL,_⟩:=id hn
  refine h _ ⟨I.ok,I.os,I.bare,⟨fun b o e n hb hx=>?_,fun b o e n hb hx=>?_,I.base.free,fun b o e hx=>?_,I.base.tups,I.base.frzs,I.base.tbls⟩,⟨_,hn',fun j y v' e1 e2 e3=>?_⟩,fun y c e=>?_,I.free,I.freeC,fun p hp=>?_,tracked ⟨oL,hoL,I.free⟩ hs,by simpa using I.len⟩ ⟨_,hs,.inl rfl⟩
  ·exact (hs.2 b (zaq (zat .aF I.ok.above))).trans (I.base.keep b o e n hb hx)
  ·obtain⟨sl,e1⟩:=I.base.slot b o e n hb hx
   exact⟨sl,(hs.2 b (zaq (zat .aF I.ok.above))).trans e1⟩
  ·obtain⟨o',e1⟩:=I.base.there b o e hx
   exact⟨o',(hs.2 b (zaq (zat .aF I.ok.above))).trans e1⟩
  ·by_cases hj:j=i
   ·subst hj
    rw [hi] at e1;cases e1
    rw [zam hiσ] at e2
    cases e2
    exact⟨u,r,.inl ⟨hk,.h⟩⟩
   ·rw [zal (Ne.symm hj)] at e2
    obtain⟨u',r',q⟩:=hl j y v' e1 e2 e3
    refine⟨u',r',?_⟩
    rcases q with ⟨k,e⟩ | ⟨k,c,e,z⟩
    ·refine .inl ⟨k,?_⟩
     have:y≠x:=fun e=>hj (zV hN e1 (e ▸ hi))
     simp [this,e]
    ·exact .inr ⟨k,c,e,z.sameBut hs (cne y c e)⟩
  ·obtain⟨w',z⟩:=I.cell y c e
   exact⟨w',z.sameBut hs (cne y c e)⟩
  ·obtain⟨e,n,ne,nf,d⟩:=I.pin p hp
   exact⟨(hs.2 p.1 ne).trans e,n,ne,nf,d⟩
 ·have hfn:X.fn x=true:=by
   rcases hf with z | z
   ·exact z
   ·rw [z] at hk;cases hk
  obtain⟨c,hc⟩:=I.ok.has x (.inl hk)
  obtain⟨w',z⟩:=I.cell x c hc
  refine wpAny_storeName_cell I.ok.kind hk hc z (fun h' hc' hs=>?_)
  obtain⟨oc,hoc,hocd⟩:=id z
  refine h { s with heap:=h' } ⟨I.ok,I.os,I.bare,⟨fun b o e n hb hx=>?_,fun b o e n hb hx=>?_,I.base.free,fun b o e hx=>?_,I.base.tups,I.base.frzs,I.base.tbls⟩,⟨m,hn.sameBut hs (Ne.symm (cne x c hc)),fun j y v' e1 e2 e3=>?_⟩,fun y c' e=>?_,I.free,I.freeC,fun p hp=>?_,tracked ⟨oc,hoc,I.freeC x c hc⟩ hs,by simpa using I.len⟩ ⟨c,hs,.inr hc⟩
  ·exact (hs.2 b (zaq (zat .aF (I.ok.cab x c hfn hc)))).trans (I.base.keep b o e n hb hx)
  ·obtain⟨sl,e1⟩:=I.base.slot b o e n hb hx
   exact⟨sl,(hs.2 b (zaq (zat .aF (I.ok.cab x c hfn hc)))).trans e1⟩
  ·obtain⟨o',e1⟩:=I.base.there b o e hx
   exact⟨o',(hs.2 b (zaq (zat .aF (I.ok.cab x c hfn hc)))).trans e1⟩
  ·by_cases hj:j=i
   ·subst hj
    rw [hi] at e1;cases e1
    rw [zam hiσ] at e2
    cases e2
    exact⟨u,r,.inr ⟨.inl hk,c,hc,hc'⟩⟩
   ·rw [zal (Ne.symm hj)] at e2
    obtain⟨u',r',q⟩:=hl j y v' e1 e2 e3
    refine⟨u',r',?_⟩
    rcases q with q | ⟨k,c',e,z'⟩
    ·exact .inl q
    ·refine .inr ⟨k,c',e,z'.sameBut hs ?_⟩
     rintro rfl
     exact hj (zV hN e1 (I.ok.inj _ _ _ e hc ▸ hi))
  ·by_cases hcc:c'=c
   ·subst hcc;exact⟨_,hc'⟩
   ·obtain⟨w2,z2⟩:=I.cell y c' e
    exact⟨w2,z2.sameBut hs hcc⟩
  ·obtain⟨e,n,ne,nf,d⟩:=I.pin p hp
   refine⟨(hs.2 p.1 ?_).trans e,n,ne,nf,d⟩
   intro q
   rw [q,hoc] at e
   have q':oc=p.2:=zaL e
   exact d w' (by rw [<- q'];exact hocd)
theorem oW {M:Model}{A:Around}{E:.m}{i:Nat}{x:Str}{v:V}{u:Value}{Q:.dR}(I:.u)(hN:X.N.Nodup)(hi:X.N[i]? = some x)(hx:.e9)(r:RelV v u)
  (h:∀s',Inv X pins (σ.set i .dw) H s'->Q () s') (hf:X.fn x=true\/X.env.scope.names.lookup x=some .local:=by first | exact .inl rfl | exact .inr rfl | assumption):wpAny M A (storeName X.env x u) Q E s:=
 pV I hN hi hx r (fun s' I' _=>h s' I') hf
theorem Inv.call' {s':Shared}{ch:.aj}(I:.u)(ho:s'.os=s.os)(u:Un (vL X.stack) ch H H' s.heap s'.heap)(hok:ly X.prog X.w H' s'.heap)(hg:AllBare s'.gens)
  (hch:∀b∈ch,(b∈X.ex\/X.Y8.heap.objs.size≤b)/\b≠X.env.locals/\(∀x c,X.env.cells.lookup x=some c->c≠b)/\∀p∈X.pn++pins,p.1≠b):Inv X pins σ H' s':=by
 obtain⟨h',g',d',t',o'⟩:=s'
 have e:o'=s.os:=ho
 subst e
 exact I.call (g':=g') (t':=t') (d':=d') u hok hg hch
end
abbrev XK:=Value->Option Addr->Hp->Prop
abbrev St:=List (Option V)
abbrev VK:=V->Hp->Prop
abbrev TE:=St->Hp->VK->Prop
abbrev TT:=St->Hp->(Bool->Hp->Prop)->Prop
abbrev TA:=St->Hp->(List V->Hp->Prop)->Prop
structure Ends where
 nx:St->Hp->Prop
 rt:VK
 bk:St->Hp->Prop:=fun _ _=>False
 ct:St->Hp->Prop:=fun _ _=>False
abbrev TS:=Ends->St->Hp->Prop
def EP (X:Cx)(pins:.s)(σ:St)(Q:VK)(u:Value)(s':Shared):Prop:=∃v H',Inv X pins σ H' s'/\RelV v u/\Q v H'
def TP (X:Cx)(pins:.s)(σ:St)(Q:Bool->Hp->Prop)(b:Bool)(s':Shared):Prop:=∃H',Inv X pins σ H' s'/\Q b H'
def AP (X:Cx)(pins:.s)(σ:St)(Q:List V->Hp->Prop)(us:.X)(s':Shared):Prop:=∃vs H',Inv X pins σ H' s'/\Vals vs us/\Q vs H'
def SP (X:Cx)(pins:.s)(D:Ends)(f:Flow)(s':Shared):Prop:=
 match f with
 | .next=>∃σ' H',Inv X pins σ' H' s'/\D.nx σ' H'
 | .brk=>∃σ' H',Inv X pins σ' H' s'/\D.bk σ' H'
 | .cont=>∃σ' H',Inv X pins σ' H' s'/\D.ct σ' H'
 | .ret u=>∃v σ' H',Inv X pins σ' H' s'/\RelV v u/\D.rt v H'
def PE (X:Cx)(e:Expr)(t:TE):Prop:=
 ∀(pins:.s) (s:Shared) (σ:St) (H:Hp) (Q:VK),Inv X pins σ H s->t σ H Q->wpAny .q X.A (.Q e) .bQ X.xe s
def PT (X:Cx)(e:Expr)(t:TT):Prop:=
 ∀(pins:.s) (s:Shared) (σ:St) (H:Hp) (Q:Bool->Hp->Prop),Inv X pins σ H s->t σ H Q->wpAny .q X.A (isTrue e X.env (.Q e)) (TP X pins σ Q) X.xe s
def PW (X:Cx)(e:Expr)(t:TT):Prop:=
 ∀(whole:Sem Value) (pins:.s) (s:Shared) (σ:St) (H:Hp) (Q:Bool->Hp->Prop),Inv X pins σ H s->t σ H Q->wpAny .q X.A (isTrue e X.env whole) (TP X pins σ Q) X.xe s
theorem PW.pt {X:Cx}{e:Expr}{t:TT}(h:PW X e t):PT X e t:=h _
def PA (X:Cx)(es:.az)(t:TA):Prop:=
 ∀(pos:Pos) (pins:.s) (s:Shared) (σ:St) (H:Hp) (Q:List V->Hp->Prop),Inv X pins σ H s->t σ H Q->wpAny .q X.A (spliced (backTo pos .a6)) (AP X pins σ Q) X.xe s
def PS (X:Cx)(st:Stmt)(t:TS):Prop:=
 ∀(pins:.s) (s:Shared) (σ:St) (H:Hp) (D:Ends),Inv X pins σ H s->t D σ H->wpAny .q X.A (exec st X.env) (SP X pins D) X.xe s
def mK (X:Cx)(st:.bG)(t:TS):Prop:=
 ∀(pins:.s) (s:Shared) (σ:St) (H:Hp) (D:Ends),Inv X pins σ H s->t D σ H->wpAny .q X.A (execs st X.env) (SP X pins D) X.xe s
theorem cR {α:Type}{t:Sem α}{Q Q':α->Shared->Prop}{M:Model}{A:Around}{E:.m}{s:Shared}(h:wpAny M A t Q E s)(hQ:∀a s,Q a s->Q' a s):wpAny M A t Q' E s:=wpAny_mono h hQ fun _ _ x=>x
section
variable {X:Cx}
def yu (i:Nat):TE:=fun σ H Q=>∃v,σ[i]? = some .dw/\Q v H
def tC (v:V):TE:=fun _ H Q=>Q v H
theorem Mp {i:Nat}{x:Str}{pos:Pos}(hN:X.N[i]? = some x)(hv:Na X.env.scope x)(hd:.L=false:=by decide)(hcd:(x == ("__classdict__" : Str))=false:=by decide):PE X .cC (yu i):=by
 intro pins s σ H Q I h
 obtain⟨v,e,h⟩:=h
 obtain⟨m,hn,hl⟩:=I.loc
 obtain⟨u,r,l⟩:=hl i x v hN e hv
 have fin:EP X pins σ Q u s:=⟨v,H,I,r,h⟩
 rcases l with ⟨hk,hm⟩ | ⟨hk,c,hc,hcell⟩
 ·exact wpAny_Name (wpAny_loadName_local I.ok.kind hk hn hm fin) hd
 ·rcases hk with hk | hk
  ·exact wpAny_Name (wpAny_loadName_cell I.ok.kind hk hc hcell fin) hd
  ·exact wpAny_Name (wpAny_loadName_free I.ok.kind hk hc hcell fin hcd) hd
theorem Mh {i j pos}:PE X (.Constant (.j i) j pos) (tC (.j i)):=fun _ _ _ H _ I h=>wpAny_Constant_int ⟨.int i,H,I.tok _,.aB,h⟩
theorem OP {b j pos}:PE X (.Constant (.bool b) j pos) (tC (.bl b)):=fun _ _ _ H _ I h=>Constant_bool ⟨.bl b,H,I,rfl,h⟩
theorem Mi {j pos}:PE X (.Constant .none j pos) (tC .non):=fun _ _ _ H _ I h=>Constant_none ⟨.non,H,I,rfl,h⟩
theorem Mn {x j pos}:PE X (.Constant .fH j pos) (tC .fH):=fun _ _ _ H _ I h=>Calls.Constant_str ⟨.str x,H,I.tok _,.aB,h⟩
def Gl (X:Cx)(x:Str):Prop:=X.env.kindOf x=some .globalImplicit
theorem oJ {E:.m}{pins:.s}{s:Shared}{σ:St}{H:Hp}{x:Str}{u:Value}{pos:Pos}{Q:.m}(I:.u)(hg:Gl X x)(hm:X.mg x=some u)(h:Q u s)
  (hd:.L=false:=by decide):wpAny .q X.A (.Q (.Name x pos)) Q E s:=
 Calls.Name_function_global I.ok.kind hg (Calls.loadGlobal_global (by rw [I.ok.glob];exact I.mod.glob.keeps I.bk) hm h) hd
theorem pI {E:.m}{pins:.s}{s:Shared}{σ:St}{H:Hp}{x:Str}{u:Value}{pos:Pos}{Q:.m}(I:.u)(hg:Gl X x)(hm:X.mg x=none)(hv:bootBuiltins x=some u)(h:Q u s)
  (hn:x≠"__name__" := by decide) (hd:.L=false:=by decide):wpAny .q X.A (.Q (.Name x pos)) Q E s:=by
 obtain⟨mb,h1,h2⟩:=I.mod.blt
 exact Calls.Name_function_global I.ok.kind hg (Calls.loadGlobal_builtin (by rw [I.ok.glob];exact I.mod.glob.keeps I.bk) hm (by rw [I.ok.blt];exact h1.keeps I.bk) ((h2 x hn).trans hv) h) hd
theorem oO {x:Str}{v:V}{u:Value}{pos:Pos}(hg:Gl X x)(hm:X.mg x=some u)(r:RelV v u)(hd:.L=false:=by decide):PE X .cC (tC v):=
 fun _ _ _ H _ I h=>oJ I hg hm ⟨v,H,I,r,h⟩ hd
theorem JN {x:Str}{v:V}{u:Value}{pos:Pos}(hg:Gl X x)(hm:X.mg x=none)(hv:bootBuiltins x=some u)(r:RelV v u)(hn:x≠"__name__" := by decide)(hd:.L=false:=by decide):PE X .cC (tC v):=
 fun _ _ _ H _ I h=>pI I hg hm hv ⟨v,H,I,r,h⟩ hn hd
variable {a b:Expr}{ta tb:TE}{pos:Pos}
def PC (X:Cx)(op:CmpOp)(a b:Expr)(t:TE):Prop:=
 ∀(pins:.s) (s:Shared) (σ:St) (H:Hp) (Q:VK),Inv X pins σ H s->t σ H Q ->
  wpAny .q X.A (.Q a) (fun v s₁=>wpAny .q X.A (.Q b) (fun u s₂=>wpAny .q X.A (compareOp op v u) .bQ X.xe s₂) X.xe s₁) X.xe s
def tB (t:TE):TT:=fun σ H Q=>t σ H fun x H1=>∃c,x=.bl c/\Q c H1
theorem MA {op:CmpOp}{t:TE}(h:PC X op a b t)(h1:behindInMarks op b=false:=by first | exact nobehind _ .f .f | rfl):PT X .eR (tB t):=by
 intro pins s σ H Q I hw
 refine wpAny_isTrue_Compare1 (cR (h pins s σ H _ I hw) fun v s1 h1=>cR h1 fun u s2 h2=>cR h2 fun c s3 .aA=>?_) h1
 obtain⟨d,rfl,q⟩:=q1
 cases r1
 exact wpAny_truthy_bool ⟨H1,I1,q⟩
variable {tA tB':TT}{rest:.az}
def Rk (t u:TT):TT:=fun σ H Q=>t σ H fun c H1=>if c=true then u σ H1 Q else Q false H1
def Sy (t u:TT):TT:=fun σ H Q=>t σ H fun c H1=>if c=true then Q true H1 else u σ H1 Q
def Rt (t:TT):TT:=fun σ H Q=>t σ H fun c H1=>Q (!c) H1
theorem JZ (ha:PT X a tA):PW X (.BoolOp .And [a] pos) tA:=by
 intro wh pins s σ H Q I h
 refine isTrue_and (cR (ha pins s σ H Q I h) fun c s1 e=>?_)
 cases c with
 |true=>exact isTrue_and_nil e
 |false=>exact e
theorem MF (ha:PT X a tA):PW X (.BoolOp .Or [a] pos) tA:=by
 intro wh pins s σ H Q I h
 refine isTrue_or (cR (ha pins s σ H Q I h) fun c s1 e=>?_)
 cases c with
 |false=>exact isTrue_or_nil e
 |true=>exact e
theorem ME (ha:PT X a tA)(hb:PW X (.BoolOp .And (b::rest) pos) tB'):PW X .e2 (Rk tA tB'):=by
 intro wh pins s σ H Q I h
 refine isTrue_and (cR .br fun c s1 ⟨H1,I1,q1⟩=>?_)
 cases c with
 |true=>exact hb wh pins s1 σ H1 Q I1 q1
 |false=>exact⟨H1,I1,q1⟩
theorem OV (ha:PT X a tA)(hb:PW X (.BoolOp .Or (b::rest) pos) tB'):PW X (.BoolOp .Or (a::b::rest) pos) (Sy tA tB'):=by
 intro wh pins s σ H Q I h
 refine isTrue_or (cR .br fun c s1 ⟨H1,I1,q1⟩=>?_)
 cases c with
 |true=>exact⟨H1,I1,q1⟩
 |false=>exact hb wh pins s1 σ H1 Q I1 q1
theorem MD (ha:PT X a tA):PT X (.UnaryOp .Not a pos) (Rt tA):=by
 intro pins s σ H Q I h
 exact isTrue_not (ha pins s σ H (fun c H1=>Q (!c) H1) I h)
def O8 (ta tb:TE):TE:=fun σ H Q=>ta σ H fun x H1=>∃c,x=.bl c/\if c=true then tb σ H1 Q else Q .Q H1
def Ph (ta:TE):TE:=fun σ H Q=>ta σ H fun x H1=>∃c,x=.bl c/\Q (.bl (!c)) H1
theorem Ml {op}{t:TE}(h:PE X a t):PE X (.BoolOp op [a] pos) t:=fun pins s σ H Q I hw=>BoolOp_one (h pins s σ H Q I hw)
theorem Me (ha:PE X a ta)(hb:PE X (.BoolOp .And (b::rest) pos) tb):PE X .e2 (O8 ta tb):=by
 intro pins s σ H Q I h
 refine BoolOp_and (cR .br fun v s1 .aA=>?_)
 obtain⟨c,rfl,q1⟩:=q1
 cases r1
 refine wpAny_truthy_bool ?_
 cases c with
 |true=>exact hb pins s1 σ H1 Q I1 q1
 |false=>exact⟨.bl false,H1,I1,rfl,q1⟩
theorem Mj (ha:PE X a ta):PE X (.UnaryOp .Not a pos) (Ph ta):=by
 intro pins s σ H Q I h
 refine UnaryOp_ (cR .br fun v s1 .aA=>?_)
 obtain⟨c,rfl,q1⟩:=q1
 cases r1
 exact not_of (wpAny_truthy_bool ⟨.bl (!c),H1,I1,rfl,q1⟩)
def Sw (t:TT)(ta tb:TE):TE:=fun σ H Q=>t σ H fun c H1=>if c=true then ta σ H1 Q else tb σ H1 Q
theorem Hl {c:Expr}(hc:PT X c tA)(ha:PE X a ta)(hb:PE X b tb):PE X (.IfExp c a b pos) (Sw tA ta tb):=by
 intro pins s σ H Q I h
 refine wpAny_IfExp (cR (hc pins s σ H _ I h) fun d s1 ⟨H1,I1,q1⟩=>?_)
 cases d with
 |true=>exact ha pins s1 σ H1 Q I1 q1
 |false=>exact hb pins s1 σ H1 Q I1 q1
end
def gR (K:.l)(H:Hp)(a:Addr)(xs:List V):Prop:=
 Rd H a .c6 \/
  ∃(o:Obj) (its:.cK) (n:Nat),K.lookup a=some o/\o.cls=.type "list"/\o.dict=none/\o.data=.seq its n/\its.size≤sizeLine/\Vals xs its.toList
def mM (K:.l)(H:Hp)(a:Addr)(xs:List V):Prop:=
 Rd H a .eJ \/
  ∃(o:Obj) (its:.cK) (n:Nat),K.lookup a=some o/\o.cls=.type "tuple"/\o.data=.seq its n/\its.size≤sizeLine/\Vals xs its.toList
def QA:Value->Option V
 | .none=>some .non
 | .bool b=>some (.bl b)
 | .int i _=>some (.j i)
 | .str x _=>some .fH
 | .bytes b _=>some (.byt b)
 | .float b _=>some (.flt b)
 | .ref a=>some (.c a)
 | .type n=>some (.ty n)
 |_=>none
theorem RelV.abs {x:V}{u:Value}(r:RelV x u):QA u=some x:=by
 cases x with
 |non=>cases r;rfl
 |bl _=>cases r;rfl
 |int _=>obtain⟨t,rfl⟩:=r;rfl
 |str _=>obtain⟨t,rfl⟩:=r;rfl
 |byt _=>obtain⟨t,rfl⟩:=r;rfl
 |flt _=>obtain⟨t,rfl⟩:=r;rfl
 |ref _=>cases r;rfl
 |ty _=>cases r;rfl
theorem RelV.inj {x y:V}{u:Value}(r:RelV x u)(q:RelV y u):x=y:=zaL (r.abs.symm.trans q.abs)
theorem Vals.inj:∀{xs ys:List V} {us:.X},Vals xs us->Vals ys us->xs=ys
 |_,_,_,.nil,.nil=>rfl
 |_,_,_,.cons r t,.cons r' t'=>by rw [r.inj r',Vals.inj t t']
section
variable {X:Cx}{pins:.s}{σ:St}{H:Hp}{s:Shared}{a:Addr}{xs ys:List V}
theorem gR.of {K:.l}(h:H a=some .c6):gR K H a xs:=.inl (.inl h)
theorem mM.of {K:.l}(h:H a=some .eJ):mM K H a xs:=.inl (.inl h)
theorem Inv.list (I:.u)(h:gR X.K H a xs):∃its:List Value,Vals xs its/\PlainL s.heap a its.toArray/\xs.length≤sizeLine:=by
 rcases h with h | ⟨o,its,n,hk,hc,hd,hs,hz,r⟩
 ·obtain⟨z,its,n,r,e⟩:=h.ok I.hok
  exact⟨its,r,⟨_,n,e,rfl,rfl,rfl⟩,z⟩
 ·refine⟨its.toList,r,⟨o,n,I.kIn a o hk,hc,hd,by simpa using hs⟩,?_⟩
  have e:=r.length
  simp only [Array.length_toList] at e
  omega
theorem Inv.tuple (I:.u)(h:mM X.K H a xs):∃its:List Value,Vals xs its/\IsTup s.heap a its.toArray/\xs.length≤sizeLine:=by
 rcases h with h | ⟨o,its,n,hk,hc,hs,hz,r⟩
 ·obtain⟨z,its,r,p⟩:=h.ok I.hok
  exact⟨its,r,p,z⟩
 ·refine⟨its.toList,r,⟨o,I.kIn a o hk,hc,n,by simpa using hs⟩,?_⟩
  have e:=r.length
  simp only [Array.length_toList] at e
  omega
theorem Inv.list_inj (I:.u)(h:gR X.K H a xs)(h':gR X.K H a ys):xs=ys:=by
 obtain⟨its,r,⟨o,n,e,_,_,d⟩,_⟩:=I.list h
 obtain⟨its',r',⟨o',n',e',_,_,d'⟩,_⟩:=I.list h'
 rw [e] at e';cases e'
 rw [d] at d'
 injection d' with d1 _
 have:its=its':=by simpa using congrArg Array.toList d1
 subst this
 exact r.inj r'
theorem Inv.tuple_inj (I:.u)(h:mM X.K H a xs)(h':mM X.K H a ys):xs=ys:=by
 obtain⟨its,r,⟨o,e,_,n,d⟩,_⟩:=I.tuple h
 obtain⟨its',r',⟨o',e',_,n',d'⟩,_⟩:=I.tuple h'
 rw [e] at e';cases e'
 rw [d] at d'
 injection d' with d1 _
 have:its=its':=by simpa using congrArg Array.toList d1
 subst this
 exact r.inj r'
end
abbrev Cx.wish (X:Cx)(E:.m):Cx:={ X with xe:=E }
abbrev Cx.nox (X:Cx):Cx:=X.wish fun _ _=>False
theorem Cx.Ok.wish {X:Cx}(ok:X.Ok)(E:.m):(X.wish E).Ok:=
 ⟨ok.mod,ok.kind,ok.glob,ok.blt,ok.above,ok.inj,ok.has,ok.cab,ok.hd,ok.frames,ok.stk,ok.exf,ok.bs,ok.bsz,ok.noex,ok.exfs,ok.funs,ok.frf⟩
theorem Cx.Ok.unwish {X:Cx}{E:.m}(ok:(X.wish E).Ok):X.Ok:=
 ⟨ok.mod,ok.kind,ok.glob,ok.blt,ok.above,ok.inj,ok.has,ok.cab,ok.hd,ok.frames,ok.stk,ok.exf,ok.bs,ok.bsz,ok.noex,ok.exfs,ok.funs,ok.frf⟩
section
variable {X:Cx}{pins:.s}{σ:St}{H:Hp}{s:Shared}{E:.m}
theorem Inv.wish (I:.u)(E:.m):Inv (X.wish E) pins σ H s:=⟨I.ok.wish E,I.os,I.bare,I.base,I.loc,I.cell,I.free,I.freeC,I.pin,I.hok,I.len⟩
theorem Inv.unwish (I:Inv (X.wish E) pins σ H s):Inv X pins σ H s:=⟨I.ok.unwish,I.os,I.bare,I.base,I.loc,I.cell,I.free,I.freeC,I.pin,I.hok,I.len⟩
theorem SP.unwish {D:Ends}{f:Flow}{s':Shared}(h:SP (X.wish E) pins D f s'):SP X pins D f s':=by
 cases f with
 |next=>obtain⟨σ',H',I,q⟩:=h;exact⟨σ',H',I.unwish,q⟩
 |brk=>obtain⟨σ',H',I,q⟩:=h;exact⟨σ',H',I.unwish,q⟩
 |cont=>obtain⟨σ',H',I,q⟩:=h;exact⟨σ',H',I.unwish,q⟩
 |ret u=>obtain⟨v,σ',H',I,r,q⟩:=h;exact⟨v,σ',H',I.unwish,r,q⟩
theorem mK.nox {st:.bG}{t:TS}(h:mK X.nox st t):mK X st t:=fun pins s σ H D I hw =>
 wpAny_mono (h pins s σ H D (I.wish _) hw) (fun _ _ q=>q.unwish) fun _ _ z=>False.elim z
end
section
variable {X:Cx}{st:Stmt}{rest:.bG}{t u:TS}{e:Expr}{te:TE}{pos:Pos}
def Pf:TS:=fun D σ H=>D.nx σ H
def Rx (t u:TS):TS:=fun D σ H=>t { D with nx:=u D } σ H
theorem qU:mK X [] Pf:=fun _ _ σ H _ I h=>wpAny_execs_nil ⟨σ,H,I,h⟩
theorem jQ (h1:PS X st t)(h2:mK X rest u):mK X (st::rest) (Rx t u):=by
 intro pins s σ H D I h
 refine wpAny_execs_cons (cR (h1 pins s σ H { D with nx:=u D } I h) fun f s1 q=>?_)
 cases f with
 |next =>
  obtain⟨σ',H',I',q⟩:=q
  exact h2 pins s1 σ' H' D I' q
 |ret v=>exact q
 |brk=>exact q
 |cont=>exact q
theorem yb (h1:PS X st t):mK X [st] t:=by
 intro pins s σ H D I h
 refine wpAny_execs_cons (cR (h1 pins s σ H D I h) fun f s1 q=>?_)
 cases f with
 |next=>exact wpAny_execs_nil q
 |ret v=>exact q
 |brk=>exact q
 |cont=>exact q
theorem Inv.quiet {pins:.s}{σ:St}{H:Hp}{s:Shared}(I:.u):interactive X.env=false:=by simp [interactive,I.ok.kind]
def Pd (te:TE):TS:=fun D σ H=>te σ H fun _ H1=>D.nx σ H1
theorem ya (he:PE X e te)(hs:swapsWith e none pos.line X.env=pure false:=by rfl):PS X (.Expr e pos) (Pd te):=by
 intro pins s σ H D I h
 exact wpAny_Expr_any (cR .ck fun v s1 .aA=>⟨σ,H1,I1,q1⟩) I.quiet hs
def Rv (te:TE):TS:=fun D σ H=>te σ H D.rt
theorem Hw (he:PE X e te):PS X (.Return (some e) pos) (Rv te):=by
 intro pins s σ H D I h
 exact wpAny_Return_some (cR .ck fun v s1 .aA=>⟨x,σ,H1,I1,r1,q1⟩)
def Rp (c:TT)(t u:TS):TS:=fun D σ H=>c σ H fun b H1=>if b=true then t D σ H1 else u D σ H1
theorem Hu {c:Expr}{a b:.bG}{tc:TT}(hc:PT X c tc)(ha:mK X a t)(hb:mK X b u):PS X (.If c a b pos) (Rp tc t u):=by
 intro pins s σ H D I h
 refine wpAny_If (cR (hc pins s σ H _ I h) fun d s1 ⟨H1,I1,q1⟩=>?_)
 cases d with
 |true=>exact ha pins s1 σ H1 D I1 q1
 |false=>exact hb pins s1 σ H1 D I1 q1
def HX:TS:=fun _ _ _=>False
theorem Hv:PS X st HX:=fun _ _ _ _ _ _ h=>h.elim
theorem EF {Qf:.bG}:mK X Qf HX:=fun _ _ _ _ _ _ h=>h.elim
end
abbrev TG:=V->St->Hp->(St->Hp->Prop)->Prop
abbrev Im:=List V->St->Hp->(St->Hp->Prop)->Prop
def PG (X:Cx)(target:Expr)(t:TG):Prop:=
 ∀(pins:.s) (s:Shared) (σ:St) (H:Hp) (v:V) (u:Value) (Q:St->Hp->Prop),Inv X pins σ H s->RelV v u->t v σ H Q ->
  wpAny .q X.A (assign target X.env u) (fun _ s'=>∃σ' H',Inv X pins σ' H' s'/\Q σ' H') X.xe s
def M8 (X:Cx)(ts:.az)(t:Im):Prop:=
 ∀(pins:.s) (s:Shared) (σ:St) (H:Hp) (vs:List V) (us:.X) (Q:St->Hp->Prop),Inv X pins σ H s->Vals vs us->t vs σ H Q ->
  wpAny .q X.A (assignInOrder ((assignEach ts X.env).map (·.2)) us) (fun _ s'=>∃σ' H',Inv X pins σ' H' s'/\Q σ' H') X.xe s
section
variable {X:Cx}{pos:Pos}
def KO (i:Nat):TG:=fun v σ H Q=>Q (σ.set i .dw) H
theorem JS {i:Nat}{x:Str}(hN:X.N.Nodup)(hi:X.N[i]? = some x)(hx:.e9)(hf:X.fn x=true\/X.env.scope.names.lookup x=some .local:=by first | exact .inl rfl | exact .inr rfl | assumption):PG X .cC (KO i):=by
 intro pins s σ H v u Q I r h
 exact wpAny_assign_Name (oW I hN hi hx r (fun s' I'=>⟨_,H,I',h⟩) hf)
def QK:Im:=fun vs σ H Q=>vs=[]/\Q σ H
def Of (t:TG)(u:Im):Im:=fun vs σ H Q=>∃v r,vs=v::r/\t v σ H fun σ' H'=>u r σ' H' Q
theorem JT:M8 X [] QK:=by
 intro pins s σ H vs us Q I r h
 obtain⟨e,h⟩:=h
 subst e
 cases r
 exact assignInOrder_nil ⟨σ,H,I,h⟩
theorem Hq {e:Expr}{es:.az}{t:TG}{u:Im}(h1:PG X e t)(h2:M8 X es u)
  (hs:(assignEach (e::es) X.env).map (·.2)=assign e X.env::(assignEach es X.env).map (·.2):=by rfl):M8 X (e::es) (Of t u):=by
 intro pins s σ H vs us Q I r h
 obtain⟨v,vr,e1,h⟩:=h
 subst e1
 cases r with
 |cons r rr =>
  rw [hs]
  refine assignInOrder_cons (cR (h1 pins s σ H _ _ _ I r h) fun _ s1 ⟨σ1,H1,I1,q1⟩=>?_)
  exact h2 pins s1 σ1 H1 _ _ Q I1 rr q1
def QM (K:.l)(n:Nat)(t:Im):TG:=fun v σ H Q=>∃a xs,v=.ref a/\mM K H a xs/\xs.length=n/\t xs σ H Q
theorem Mr {es:.az}{k:Nat}{t:Im}{n:Nat}(hc:.bL)(h:M8 X es t)
  (hn:(assignEach es X.env).length=n:=by rfl) (hst:(assignEach es X.env).findIdx? (·.1)=none:=by rfl):PG X (.Tuple es k pos) (QM X.K n t):=by
 intro pins s σ H v u Q I r hw
 obtain⟨a,xs,e1,hq,hl,hw⟩:=hw
 subst e1
 cases r
 obtain⟨its,rv,ht,hz⟩:=I.tuple hq
 refine assign_Tuple_tuple .cX ht (by simp [hn,<- hl,rv.length]) hst fun h' hx=>?_
 have I1:Inv X pins σ H { s with heap:=h' }:=I.kept (t':=s.toks) fun b o e=>hx b o (zaq .aF) e
 exact h pins _ σ H xs _ Q I1 (by simpa using rv) hw
def O9 (te:TE)(g:TG):TS:=fun D σ H=>te σ H fun x H1=>g x σ H1 D.nx
theorem Mw {tg e:Expr}{te:TE}{g:TG}(he:PE X e te)(hg:PG X tg g)(hs:swapsWithSole [tg] e pos.line X.env=pure false:=by rfl)(hw:swappedStores [tg] e X.env=pure none:=by rfl)
  (h1:(assignEach [tg] X.env).map (·.2)=[assign tg X.env]:=by rfl):PS X (.Assign [tg] e pos) (O9 te g):=by
 intro pins s σ H D I h
 refine wpAny_Assign_stores (cR .ck fun v s1 .aA=>?_) hs hw
 rw [h1]
 exact cR (hg pins s1 σ H1 x v _ I1 r1 q1) fun _ s2 q=>q
theorem BO {i:Nat}{x:Str}{e:Expr}{te:TE}{pos':Pos}(hN:X.N.Nodup)(hi:X.N[i]? = some x)(hx:.e9)(he:PE X e te)(hs:swapsWith e (.Y x pos') pos.line X.env=pure false:=by rfl)(hf:X.fn x=true\/X.env.scope.names.lookup x=some .local:=by first | exact .inl rfl | exact .inr rfl | assumption):
  PS X (.Assign [.Name x pos'] e pos) (O9 te (KO i)):=by
 intro pins s σ H D I h
 refine wpAny_Assign_Name (cR .ck fun v s1 ⟨y,H1,I1,r1,q1⟩=>?_) hs
 exact oW I1 hN hi hx r1 (fun s2 I2=>⟨_,H1,I2,q1⟩) hf
def Ru (i j:Nat)(ta:TA):TS:=fun D σ H=>ta σ H fun vs H1=>∃v w,vs=[v,w]/\D.nx ((σ.set i .dw).set j (some w)) H1
theorem Mz {i j:Nat}{x y:Str}{a b:Expr}{ta:TA}{px py pt:Pos}{kt k2 pt2}(hc:.bL)(hN:X.N.Nodup)(hi:X.N[i]? = some x)(hj:X.N[j]? = some y)(hij:i≠j)
  (hx:X.env.scope.names.lookup x=some .local) (hy:.cD) (ha:PA X [a,b] ta)
  (hw:swappedStores .bI .eL X.env=pure (some [x,y]))
  (hs:swapsWithSole .bI .eL pos.line X.env=pure false:=by rfl):
  PS X (.Assign .bI .eL pos) (Ru i j ta):=by
 intro pins s σ H D I h
 rw [exec_Assign_arm]
 refine wpAny_bind (wpAny_standAt ?_)
 rw [hs]
 refine wpAny_bind .b9
 rw [if_neg .f]
 refine wpAny_bind (Tuple_ (cR (ha _ pins s σ H _ I h) fun us s1 ⟨vs,H1,I1,r1,q1⟩=>?_))
 obtain⟨v,w,e1,q1⟩:=q1
 subst e1
 obtain⟨u1,u2,rfl,rv,rw'⟩:∃u1 u2,us=[u1,u2]/\RelV v u1/\RelV w u2:=by
  cases r1 with
  |cons p q =>
   cases q with
   |cons p' q' =>
    cases q'
    exact⟨_,_,rfl,p,p'⟩
 refine wpAny_newObj_type ?_ (by show 2≤sizeLine;decide)
 have I2:Inv X pins σ H1 { s1 with heap:=s1.heap.push { cls:=.type "tuple", data:=.seq [u1,u2].toArray } }:=I1.kept (t':=s1.toks) fun b o e=>Heap.get?_push_of_some _ e
 rw [hw]
 refine wpAny_bind .b9
 show wpAny .q X.A (do rule "assign.swapped-stores";let items <- unpackItems (.ref s1.heap.objs.size) 2 none;assignInOrder [fun v=>bindName X.env y v,fun v=>bindName X.env x v] items.reverse;pure Flow.next) _ _ _
 refine wpAny_bind (wpAny_rule (.u (unpackItems_tuple (items:=#[u1,u2]) .cX (IsTup.new s1.heap _) fun h' hx'=>?_)))
 have I3:=I2.kept (h':=h') (t':=s1.toks) fun b o e=>hx' b o (zaq .aF) e
 show wpAny _ _ (assignInOrder [fun v=>bindName X.env y v,fun v=>bindName X.env x v] [u2,u1] >>= fun _=>pure Flow.next) _ _ _
 refine wpAny_bind (assignInOrder_cons (wpAny_bindName (oW I3 hN hj (.inl hy) rw' (fun s2 I4=>?_) (.inr hy))))
 refine assignInOrder_cons (wpAny_bindName (oW I4 hN hi (.inl hx) rv (fun s3 I5=>assignInOrder_nil .b9) (.inr hx)))
 rw [List.set_comm _ _ (Ne.symm hij)] at I5
 exact⟨_,H1,I5,q1⟩
end
section
variable {X:Cx}{pos:Pos}
def MV (c:TT)(tb:TS):TS:=fun D σ H=>∃W:Nat->St->Hp->Prop,(∃m,W m σ H)/\∀m σ H,W m σ H ->
 c σ H fun b H1=>if b=true then ∃N:St->Hp->Prop,(∀σ' H',N σ' H'->∃m',m'<m/\W m' σ' H')/\tb { D with nx:=N,ct:=N,bk:=D.nx } σ H1 else D.nx σ H1
theorem Hx {c:Expr}{body:.bG}{tc:TT}{tb:TS}(hp:.ev)(hc:PT X c tc)(hb:mK X body tb):PS X (.While c body [] pos) (MV tc tb):=by
 intro pins s σ H D I h
 obtain⟨W,⟨m0,w0⟩,turn⟩:=h
 refine wpAny_While (codeAny_whileLoop (fun n s'=>∃σ' H',Inv X pins σ' H' s'/\W n σ' H') ?_ m0 ⟨σ,H,I,w0⟩)
 rintro n s1 ⟨σ1,H1,I1,w1⟩
 refine wpAny_passesOwn hp (cR (hc pins s1 σ1 H1 _ I1 (turn n σ1 H1 w1)) fun b s2 ⟨H2,I2,q2⟩=>?_)
 cases b with
 |true =>
  obtain⟨N,hN,q2⟩:=q2
  rw [if_pos rfl]
  refine wpAny_passesOwn hp (cR (hb pins s2 σ1 H2 _ I2 q2) fun f s3 q3=>?_)
  cases f with
  |next =>
   obtain⟨σ3,H3,I3,n3⟩:=q3
   obtain⟨m',hm,w3⟩:=hN σ3 H3 n3
   exact⟨m',hm,σ3,H3,I3,w3⟩
  |cont =>
   obtain⟨σ3,H3,I3,n3⟩:=q3
   obtain⟨m',hm,w3⟩:=hN σ3 H3 n3
   exact⟨m',hm,σ3,H3,I3,w3⟩
  |brk=>exact q3
  |ret v=>exact q3
 |false =>
  rw [if_neg zaK]
  exact wpAny_execs_nil ⟨σ1,H2,I2,q2⟩
end
structure It where
 go:Nat->Hp->Prop
 yld:Nat->Hp->V->Hp->Prop
 stop:Nat->Hp->Prop
def ri (X:Cx)(pins:.s)(H:Hp)(b:Addr):Prop:=
 H b=none/\b≠X.env.locals/\b∉X.fs/\(b∈X.ex\/X.Y8.heap.objs.size≤b)/\(∀x c,X.env.cells.lookup x=some c->c≠b)/\∀p∈X.pn++pins,p.1≠b
theorem Inv.fpOk {X:Cx}{pins:.s}{σ:St}{H H':Hp}{s:Shared}{b:Addr}(I:.u)(hb:s.heap.objs.size≤b)(hn:H' b=none):ri X pins H' b:=by
 refine⟨hn,zaU (zat I.lt hb),I.nofs hb,.inr (zaA I.sz hb),fun x c e z=>?_,fun p hp z=>?_⟩
 ·obtain⟨v,q⟩:=I.cell x c e
  exact absurd (zat q.lt (by rw [z];exact hb)) (za1 _)
 ·exact absurd (zat (Heap.lt_size (I.pin p hp).1) (by rw [z];exact hb)) (za1 _)
structure Turn (P:.am)(w:World)(K:.l)(tg:Expr)(J:It)(fp:.aj)(it:Addr)(tn:Nat->Heap->Prop):Prop where
 mem:it∈fp
 obj:∀i h,tn i h->∀b∈fp,∃o,h.get? b=some o/\∀v,o.data≠.cell v
 keep:∀i h h',tn i h->(∀b∈fp,∀o,h.get? b=some o->h'.get? b=some o)->tn i h'
 item:∀(X:Cx),X.prog=P->X.w=w->X.K=K->X.calm=true->∀(i:Nat) (pins:.s) (s:Shared) (σ:St) (H:Hp) (E:.m),Inv X pins σ H s->(∀b∈fp,ri X pins H b)->tn i s.heap->J.go i H ->
  wpAny (model P w) X.A (pyNext .fC) (fun r s1=>∃u,r=some u /\
   wpAny (model P w) X.A (letOwnedTupleGo tg .fC u) (fun _ s2=>∃x H',Inv X pins σ H' s2/\RelV x u/\J.yld i H x H'/\tn (i+1) s2.heap/\∀b∈fp,H' b=none) E s1) E s
 done:∀(X:Cx),X.prog=P->X.w=w->X.K=K->X.calm=true->∀(i:Nat) (pins:.s) (s:Shared) (σ:St) (H:Hp) (E:.m),Inv X pins σ H s->(∀b∈fp,ri X pins H b)->tn i s.heap->J.stop i H ->
  wpAny (model P w) X.A (pyNext .fC) (fun r s1=>r=none/\Inv X pins σ H s1) E s
 self:∀(A:Around) (i:Nat) (s:Shared) (Q:.m) (E:.m),tn i s.heap->Q .fC s->wpAny (model P w) A (pyIter .fC) Q E s
abbrev TI:=St->Hp->(It->Hp->Prop)->Prop
def Qx (X:Cx)(pins:.s)(σ:St)(tg:Expr)(R:It->Hp->Prop)(itv:Value)(s2:Shared):Prop:=
 ∃(it:Addr) (fp:.aj) (tn:Nat->Heap->Prop) (J:It) (H':Hp),itv=.ref it/\Inv X pins σ H' s2/\Turn X.prog X.w X.K tg J fp it tn/\tn 0 s2.heap/\(∀b∈fp,ri X pins H' b)/\R J H'
def PI (X:Cx)(tg iter:Expr)(wi:TI):Prop:=
 ∀(pins:.s) (s:Shared) (σ:St) (H:Hp) (R:It->Hp->Prop),Inv X pins σ H s->wi σ H R ->
  wpAny .q X.A (.Q iter) (fun v s1=>wpAny .q X.A (pyIter v) (Qx X pins σ tg R) X.xe s1) X.xe s
theorem CL {M:Model}{A:Around}{E:.m}{s:Shared}{tg:Expr}{it:Addr}{u:Value}{o:Obj}{n:String}{vs:.cK}{Q:.dR}(ho:s.heap.get? it=some o)(hc:o.cls=.type n)(hd:o.data=.fields vs)
    (hn:["enumerate","zip","dict_itemiterator","dict_reverseitemiterator","odict_iterator","itertools.zip_longest","itertools.pairwise"].contains n=false) (hQ:Q () s):wpAny M A (letOwnedTupleGo tg .fC u) Q E s:=by
  unfold letOwnedTupleGo
  cases tg<;>first
    |exact wpAny_pure hQ
    | (cases u<;>first
        |exact wpAny_pure hQ
        | (refine wpAny_bind (wpAny_load ho ?_)
           rw [hc,hd]
           show wpAny M A (if (["enumerate","zip","dict_itemiterator","dict_reverseitemiterator","odict_iterator","itertools.zip_longest","itertools.pairwise"].contains n&&vs[0]? == some (rawInt _))=true then _ else _) Q E s
           rw [if_neg (by intro h;rw [hn,Bool.false_and] at h;cases h)]
           exact wpAny_pure hQ))
def Qt (K:.l)(a:Addr):It:=
 ⟨fun i H=>∃xs x,gR K H a xs/\xs[i]? = some x,fun i H x H'=>H'=H/\∀xs,gR K H a xs->xs[i]? = some x,fun i H=>∃xs,gR K H a xs/\xs.length≤i⟩
def Qv (K:.l)(a:Addr):It:=
 ⟨fun i H=>∃xs x,mM K H a xs/\xs[i]? = some x,fun i H x H'=>H'=H/\∀xs,mM K H a xs->xs[i]? = some x,fun i H=>∃xs,mM K H a xs/\xs.length≤i⟩
def Py (lo:Int)(n:Nat):It:=⟨fun i _=>i<n,fun i H x H'=>H'=H/\x=.int (lo+i),fun i _=>n≤i⟩
theorem EN {P:.am}{w:World}{K:.l}{tg:Expr}(a it:Addr):Turn P w K tg (Qt K a) [it] it (fun i h=>h.IsListIter it a i) where
 mem:=.h
 obj:=fun i h st b hb=>by
  have e:b=it:=by simpa using hb
  subst e
  obtain⟨o,e,c,d⟩:=st
  exact⟨o,e,fun v z=>by rw [d] at z;cases z⟩
 keep:=fun i h h' st k=>st.at fun o e=>k it .h o e
 item:=by
  intro X hP hw hK hc i pins s σ H E I hf st hg
  subst hP hw hK
  obtain⟨xs,x,hq,hx⟩:=hg
  obtain⟨its,rv,p,hz⟩:=I.list hq
  obtain⟨u,hu,ru⟩:=rv.get hx
  obtain⟨f0,f1,f2,f3,f4,f5⟩:=hf it .h
  refine wpAny_pyNext_list_item st p.isList (x:=u) (by simpa using hu) fun h' st' sb=>?_
  have I1:Inv X pins σ H { s with heap:=h' }:=I.turned (t':=s.toks) .el f0 f1 f3 f4 f5
  obtain⟨o,e,c,d⟩:=id st'
  exact⟨u,rfl,CL (s:={ s with heap:=h' }) e c d .f ⟨x,H,I1,ru,⟨rfl,fun ys hy=>by rw [I.list_inj hy hq];exact hx⟩,st',fun b hb=>(hf b hb).1⟩⟩
 done:=by
  intro X hP hw hK hc i pins s σ H E I hf st hg
  subst hP hw hK
  obtain⟨xs,hq,hx⟩:=hg
  obtain⟨its,rv,p,hz⟩:=I.list hq
  obtain⟨f0,f1,f2,f3,f4,f5⟩:=hf it .h
  have hl:=rv.length
  exact wpAny_pyNext_list_end .cX st p.isList .j fun h' eb=>⟨rfl,I.turned (t':=s.toks) (fun b o hb e=>eb b o hb e) f0 f1 f3 f4 f5⟩
 self:=fun _ _ _ _ _ st h=>wpAny_pyIter_listiter st h
theorem B6 {P:.am}{w:World}{K:.l}{tg:Expr}(a it:Addr):Turn P w K tg (Qv K a) [it] it (fun i h=>h.IsTupleIter it a i) where
 mem:=.h
 obj:=fun i h st b hb=>by
  have e:b=it:=by simpa using hb
  subst e
  obtain⟨o,e,c,d⟩:=st
  exact⟨o,e,fun v z=>by rw [d] at z;cases z⟩
 keep:=fun i h h' st k=>st.at fun o e=>k it .h o e
 item:=by
  intro X hP hw hK hc i pins s σ H E I hf st hg
  subst hP hw hK
  obtain⟨xs,x,hq,hx⟩:=hg
  obtain⟨its,rv,p,hz⟩:=I.tuple hq
  obtain⟨u,hu,ru⟩:=rv.get hx
  obtain⟨f0,f1,f2,f3,f4,f5⟩:=hf it .h
  refine wpAny_pyNext_tuple_item st (show s.heap.IsTuple a its.toArray from p) (x:=u) (by simpa using hu) fun h' st' sb=>?_
  have I1:Inv X pins σ H { s with heap:=h' }:=I.turned (t':=s.toks) .el f0 f1 f3 f4 f5
  obtain⟨o,e,c,d⟩:=id st'
  exact⟨u,rfl,CL (s:={ s with heap:=h' }) e c d .f ⟨x,H,I1,ru,⟨rfl,fun ys hy=>by rw [I.tuple_inj hy hq];exact hx⟩,st',fun b hb=>(hf b hb).1⟩⟩
 done:=by
  intro X hP hw hK hc i pins s σ H E I hf st hg
  subst hP hw hK
  obtain⟨xs,hq,hx⟩:=hg
  obtain⟨its,rv,p,hz⟩:=I.tuple hq
  obtain⟨f0,f1,f2,f3,f4,f5⟩:=hf it .h
  have hl:=rv.length
  exact wpAny_pyNext_tuple_end .cX st (show s.heap.IsTuple a its.toArray from p) .j fun h' eb=>⟨rfl,I.turned (t':=s.toks) (fun b o hb e=>eb b o hb e) f0 f1 f3 f4 f5⟩
 self:=fun _ _ _ _ _ st h=>wpAny_pyIter_tupleiter st h
theorem B5 {P:.am}{w:World}{K:.l}{tg:Expr}(it:Addr)(lo:Int)(n:Nat):Turn P w K tg (Py lo n) [it] it (fun i h=>IsRangeIter h it (lo+(i:Nat)*1) ((n:Int)-(i:Nat)) 1) where
 mem:=.h
 obj:=fun i h st b hb=>by
  have e:b=it:=by simpa using hb
  subst e
  exact⟨_,st,fun v z=>by
   have z':Data.fields _=Data.cell v:=z
   cases z'⟩
 keep:=fun i h h' st k=>k it .h _ st
 item:=by
  intro X hP hw hK hc i pins s σ H E I hf st hg
  subst hP hw hK
  obtain⟨f0,f1,f2,f3,f4,f5⟩:=hf it .h
  have W:=Walks.range (prog:=X.prog) (w:=X.w) .cX it lo 1 n
  refine W.item i s _ _ hg st fun v h' tk hv st' kk=>?_
  obtain⟨t,rfl⟩:=hv
  have I1:Inv X pins σ H { s with heap:=h',toks:=tk }:=I.turned .fc f0 f1 f3 f4 f5
  refine⟨_,rfl,CL (s:={ s with heap:=h',toks:=tk }) (n := "range_iterator") st' rfl rfl .f ⟨.int (lo+i),H,I1,⟨t,?_⟩,⟨rfl,rfl⟩,st',fun b hb=>(hf b hb).1⟩⟩
  rw [Int.mul_one]
 done:=by
  intro X hP hw hK hc i pins s σ H E I hf st hg
  subst hP hw hK
  obtain⟨f0,f1,f2,f3,f4,f5⟩:=hf it .h
  exact wpAny_pyNext_range_end .cX st (by have:n≤i:=hg;omega) fun h' eb=>⟨rfl,I.turned (t':=s.toks) (fun b o hb e=>eb b o hb e) f0 f1 f3 f4 f5⟩
 self:=fun _ _ _ _ _ st h=>wpAny_pyIter_rangeiter st h
section
variable {X:Cx}{tg:Expr}
def Om (K:.l)(tl:TE):TI:=fun σ H R=>tl σ H fun x H1=>∃a,x=.ref a/\(∃xs,gR K H1 a xs)/\R (Qt K a) H1
def QP (K:.l)(tl:TE):TI:=fun σ H R=>tl σ H fun x H1=>∃a,x=.ref a/\(∃xs,mM K H1 a xs)/\R (Qv K a) H1
theorem JU {l:Expr}{tl:TE}(hl:PE X l tl):PI X tg l (Om X.K tl):=by
 intro pins s σ H R I h
 refine cR (hl pins s σ H _ I h) fun v s1 .aA=>?_
 obtain⟨a,e,⟨xs,hq⟩,q⟩:=q1
 subst e
 cases r1
 obtain⟨its,rv,p,hz⟩:=I1.list hq
 refine wpAny_pyIter_list p.isList ?_
 refine⟨s1.heap.objs.size,[s1.heap.objs.size],_,_,H1,rfl,I1.kept (t':=s1.toks) fun b o e=>Heap.get?_push_of_some _ e,EN a _,.aZ,fun b hb=>?_,q⟩
 have e:b=s1.heap.objs.size:=by simpa using hb
 subst e
 exact I1.fpOk .bU (I1.hok.fresh .bU)
theorem Mt {l:Expr}{tl:TE}(hl:PE X l tl):PI X tg l (QP X.K tl):=by
 intro pins s σ H R I h
 refine cR (hl pins s σ H _ I h) fun v s1 .aA=>?_
 obtain⟨a,e,⟨xs,hq⟩,q⟩:=q1
 subst e
 cases r1
 obtain⟨its,rv,p,hz⟩:=I1.tuple hq
 refine wpAny_pyIter_tuple (show s1.heap.IsTuple a its.toArray from p) ?_
 refine⟨s1.heap.objs.size,[s1.heap.objs.size],_,_,H1,rfl,I1.kept (t':=s1.toks) fun b o e=>Heap.get?_push_of_some _ e,B6 a _,.aZ,fun b hb=>?_,q⟩
 have e:b=s1.heap.objs.size:=by simpa using hb
 subst e
 exact I1.fpOk .bU (I1.hok.fresh .bU)
theorem HA {pins:.s}{σ:St}{H:Hp}{s:Shared}{R:It->Hp->Prop}{E:.m}{lo hi:Int}{t u v:Tok}{tk:Nat}(I:.u)(h1 : -(2^62)≤lo)(h2:lo<2^62)(h3 : -(2^62)≤hi)(h4:hi<2^62)
  (q:R (Py lo (hi-lo).toNat) H):wpAny .q X.A (pyIter .b7) (Qx X pins σ tg R) E { s with heap:=s.heap.push { cls:=.type "range", data:=.fields #[.int lo t,.int hi u,.int 1 v] },toks:=tk }:=by
 refine wpAny_pyIter_range (IsRange.new ..) (small_one h1 h2 h3 h4) ?_
 have I1:Inv X pins σ H { s with heap:=s.heap.push { cls:=.type "range", data:=.fields #[.int lo t,.int hi u,.int 1 v] },toks:=tk }:=I.kept fun b o e=>Heap.get?_push_of_some _ e
 refine⟨(s.heap.push { cls:=.type "range", data:=.fields #[.int lo t,.int hi u,.int 1 v] }).objs.size,[(s.heap.push { cls:=.type "range", data:=.fields #[.int lo t,.int hi u,.int 1 v] }).objs.size],_,_,H,rfl,
  I1.kept (t':=tk) fun b o e=>Heap.get?_push_of_some _ e,B5 _ lo (hi-lo).toNat,?_,fun b hb=>?_,q⟩
 ·have e1:lo+((0:Nat):Int)*1=lo:=.h
  have e2:(((hi-lo).toNat:Nat):Int)-((0:Nat):Int)=Builtin.Range.rangeSize lo hi 1:=by rw [rangeSize_one];split<;>omega
  show IsRangeIter _ _ (lo+((0:Nat):Int)*1) ((((hi-lo).toNat:Nat):Int)-((0:Nat):Int)) 1
  rw [e1,e2]
  exact Heap.get?_push_size _ rfl
 ·have e:b=(s.heap.push { cls:=.type "range", data:=.fields #[.int lo t,.int hi u,.int 1 v] }).objs.size:=by simpa using hb
  subst e
  exact I1.fpOk .bU (I1.hok.fresh .bU)
def Oo (ta:TA):TI:=fun σ H R=>ta σ H fun vs H1=>∃j:Int,vs=[.int j] /\ -(2^62)≤j/\j<2^62/\R (Py 0 j.toNat) H1
theorem ED {a:Expr}{ta:TA}{p pos:Pos}(hg:Gl X "range")(hm:X.mg "range" = none)(ha:PA X [a] ta)(hs:starEach [a] X.env=[(.i a)]:=by rfl):PI X tg (.Call (.Name "range" p) [a] [] pos) (Oo ta):=by
 intro pins s σ H R I h
 refine Call_ (pI I hg hm boot_range (za5 (cR .eB fun us s1 ⟨vs,H1,I1,r1,q1⟩=>?_) hs rfl))
 obtain⟨j,e,q1,q2,q⟩:=q1
 subst e
 cases r1 with
 |cons r rr =>
  cases rr
  obtain⟨t,rfl⟩:=r
  exact call_range_1 (HA I1 .e .e q1 q2 (by simpa using q))
def Ro (wi:TI)(g:TG)(tb:TS):TS:=fun D σ H=>wi σ H fun J H1=>∃W:Nat->Nat->St->Hp->Prop,(∃m,W 0 m σ H1)/\∀i m σ H,W i m σ H ->
 (J.stop i H/\D.nx σ H)\/(J.go i H/\∃N:St->Hp->Prop,(∀σ' H',N σ' H'->∃m',m'<m/\W (i+1) m' σ' H')/\∀x H',J.yld i H x H'->g x σ H' fun σ2 H2=>tb { D with nx:=N,ct:=N,bk:=D.nx } σ2 H2)
def pN (fp:.aj)(h:Heap):List (Addr×Obj):=fp.filterMap fun b=>(h.get? b).map fun o=>(b,o)
theorem gE {fp:.aj}{h:Heap}{b:Addr}{o:Obj}(hb:b∈fp)(e:h.get? b=some o):(b,o)∈pN fp h:=zbt.mpr ⟨b,hb,by rw [e];rfl⟩
theorem Ez {fp:.aj}{h:Heap}{p:Addr×Obj}(hp:p∈pN fp h):p.1∈fp/\h.get? p.1=some p.2:=by
 obtain⟨b,hb,e⟩:=zbt.mp hp
 cases q:h.get? b with
 |none=>rw [q] at e;cases e
 |some o =>
  rw [q] at e
  have e':(b,o)=p:=zaL e
  subst e'
  exact⟨hb,q⟩
theorem Inv.pinned {pins:.s}{σ:St}{H:Hp}{s:Shared}{fp:.aj}(I:.u)(hf:∀b∈fp,ri X pins H b)(ho:∀b∈fp,∃o,s.heap.get? b=some o/\∀v,o.data≠.cell v):Inv X (pins++pN fp s.heap) σ H s:=
 I.pins_of fun p hp=>(zaB.mp hp).elim (fun z=>I.pin p (zar _ z)) fun z=>by
  obtain⟨hb,e⟩:=Ez z
  obtain⟨f0,f1,f2,_⟩:=hf p.1 hb
  obtain⟨o,e',d⟩:=ho p.1 hb
  rw [e] at e';cases e'
  exact⟨e,f0,f1,f2,d⟩
theorem Inv.unpinned {pins pl:.s}{σ:St}{H:Hp}{s:Shared}(I:Inv X (pins++pl) σ H s):Inv X pins σ H s:=I.pins_of fun p hp=>I.pin p (zar _ (zbd _ hp))
theorem Ht {iter:Expr}{body:.bG}{wi:TI}{g:TG}{tb:TS}{pos:Pos}(hp:.ev)(hc:.bL)(hi:PI X tg iter wi)(hg:PG X tg g)(hb:mK X body tb)
  (hs:∀x,foldedSetIterable iter X.env x=pure x:=by intro _;rfl):PS X (.For tg iter body [] pos) (Ro wi g tb):=by
 intro pins s σ H D I h
 refine wpAny_For (cR (hi pins s σ H _ I h) fun v s1 h1=>cR h1 fun itv s2 h2=>?_) hs
 obtain⟨it,fp,tn,J,H2,e,I2,T,st2,f2,W,⟨m0,w0⟩,turn⟩:=h2
 subst e
 -- what stays true of the iterator's objects through the loop
 have stat:∀{H':Hp},(∀b∈fp,H' b=none)->∀b∈fp,ri X pins H' b:=fun hn b hb=>⟨hn b hb,(f2 b hb).2⟩
 refine codeAny_forLoop_any (fun n s'=>∃i σ' H',Inv X pins σ' H' s'/\tn i s'.heap/\(∀b∈fp,H' b=none)/\W i n σ' H') ?_ m0 ⟨0,σ,H2,I2,st2,fun b hb=>(f2 b hb).1,w0⟩
 rintro n s3 ⟨i,σ3,H3,I3,st3,fr3,w3⟩
 rcases turn i n σ3 H3 w3 with ⟨stop,qn⟩ | ⟨go,N,hN,step⟩
 ·refine wpAny_passesOwn hp (cR (T.done X rfl rfl rfl hc i pins s3 σ3 H3 X.xe I3 (stat fr3) st3 stop) fun r s4 ⟨hr,I4⟩=>?_)
  subst hr
  exact wpAny_execs_nil ⟨σ3,H3,I4,qn⟩
 ·refine wpAny_passesOwn hp (cR (T.item X rfl rfl rfl hc i pins s3 σ3 H3 X.xe I3 (stat fr3) st3 go) fun r s4 ⟨u,hr,h4⟩=>?_)
  subst hr
  refine wpAny_passesOwn hp (cR h4 fun _ s5 ⟨x,H5,I5,r5,y5,st5,fr5⟩=>?_)
  have I5':=I5.pinned (stat fr5) (T.obj _ _ st5)
  refine wpAny_passesOwn hp (cR (hg _ s5 σ3 H5 x u _ I5' r5 (step x H5 y5)) fun _ s6 ⟨σ6,H6,I6,q6⟩=>?_)
  refine wpAny_passesOwn hp (cR (hb _ s6 σ6 H6 _ I6 q6) fun f s7 q7=>?_)
  have again:∀{σ7:St} {H7:Hp},Inv X (pins++pN fp s5.heap) σ7 H7 s7->N σ7 H7->∃m,m<n/\∃i σ' H',Inv X pins σ' H' s7/\tn i s7.heap/\(∀b∈fp,H' b=none)/\W i m σ' H':=fun {σ7 H7} I7 n7=>by
   obtain⟨m',hm,w7⟩:=hN σ7 H7 n7
   refine⟨m',hm,i+1,σ7,H7,I7.unpinned,T.keep _ _ _ st5 fun b hb o e=>(I7.pin (b,o) .dv).1,fun b hb=>?_,w7⟩
   obtain⟨o,e,d⟩:=T.obj _ _ st5 b hb
   exact (I7.pin (b,o) .dv).2.1
  cases f with
  |next=>obtain⟨σ7,H7,I7,n7⟩:=q7;exact again I7 n7
  |cont=>obtain⟨σ7,H7,I7,n7⟩:=q7;exact again I7 n7
  |brk=>obtain⟨σ7,H7,I7,q7⟩:=q7;exact⟨σ7,H7,I7.unpinned,q7⟩
  |ret v=>obtain⟨x7,σ7,H7,I7,r7,q7⟩:=q7;exact⟨x7,σ7,H7,I7.unpinned,r7,q7⟩
end
abbrev R2:=V->V->Hp->VK->Prop
def pz (X:Cx)(f:.dy)(r:R2):Prop:=
 ∀(pins:.s) (s:Shared) (σ:St) (H:Hp) (x y:V) (v u:Value) (Q:VK),Inv X pins σ H s->RelV x v->RelV y u->r x y H Q ->
  wpAny .q X.A (f v u) .bQ X.xe s
def PD (X:Cx)(f:Value->Sem Value)(r:V->Hp->VK->Prop):Prop:=
 ∀(pins:.s) (s:Shared) (σ:St) (H:Hp) (x:V) (v:Value) (Q:VK),Inv X pins σ H s->RelV x v->r x H Q ->
  wpAny .q X.A (f v) .bQ X.xe s
def gb (X:Cx)(f:Value)(r:List V->Hp->VK->Prop):Prop:=
 ∀(pins:.s) (s:Shared) (σ:St) (H:Hp) (xs:List V) (us:.X) (Q:VK),Inv X pins σ H s->Vals xs us->r xs H Q ->
  wpAny .q X.A (call f us) .bQ X.xe s
def Qz (X:Cx)(r:V->Hp->(Bool->Hp->Prop)->Prop):Prop:=
 ∀(pins:.s) (s:Shared) (σ:St) (H:Hp) (x:V) (v:Value) (Q:Bool->Hp->Prop),Inv X pins σ H s->RelV x v->r x H Q ->
  wpAny .q X.A (truthy v) (TP X pins σ Q) X.xe s
def Pj (r:R2)(ta tb:TE):TE:=fun σ H Q=>ta σ H fun x H1=>tb σ H1 fun y H2=>r x y H2 Q
def SF (r:V->Hp->VK->Prop)(ta:TE):TE:=fun σ H Q=>ta σ H fun x H1=>r x H1 Q
def rI (C:Int->Int->Prop)(g:Int->Int->V):R2:=fun x y H Q=>∃i j,x=.int i/\y=.int j/\C i j/\Q (g i j) H
def J1 (g:Int->Int->V):R2:=fun x y H Q=>∃i j,x=.int i/\y=.int j/\Q (g i j) H
def rU (g:Int->V):V->Hp->VK->Prop:=fun x H Q=>∃i,x=.int i/\Q (g i) H
section
variable {X:Cx}{a b c:Expr}{ta tb tc:TE}{pos:Pos}
theorem Lj (ha:PE X a ta)(hb:PE X b tb){pins:.s}{s:Shared}{σ:St}{H:Hp}{R:V->V->Hp->Prop}(I:.u)
  (h:ta σ H fun x H1=>tb σ H1 fun y H2=>R x y H2) {Q:.m} {f:.dy}
  (hf:∀v u s2 x y H2,Inv X pins σ H2 s2->RelV x v->RelV y u->R x y H2->wpAny .q X.A (f v u) Q X.xe s2):
  wpAny .q X.A (.Q a) (fun v s₁=>wpAny .q X.A (.Q b) (fun u s₂=>wpAny .q X.A (f v u) Q X.xe s₂) X.xe s₁) X.xe s:=by
 refine cR .br fun v s1 .aA=>?_
 refine cR (hb pins s1 σ H1 _ I1 q1) fun u s2 ⟨y,H2,I2,r2,q2⟩=>?_
 exact hf v u s2 x y H2 I2 r1 r2 q2
theorem OR {op:Operator}{r:R2}(ho:pz X (binaryOp op) r)(ha:PE X a ta)(hb:PE X b tb):PE X (.BinOp a op b pos) (Pj r ta tb):=by
 intro pins s σ H Q I h
 exact wpAny_BinOp (Lj ha hb I h fun v u s2 x y H2 I2 rx ry q=>ho pins s2 σ H2 x y v u Q I2 rx ry q)
theorem OS {op:UnaryOp}{r:V->Hp->VK->Prop}(ho:PD X (unaryOp op) r)(ha:PE X a ta):PE X (.UnaryOp op a pos) (SF r ta):=by
 intro pins s σ H Q I h
 exact UnaryOp_ (cR .br fun v s1 .aA=>ho pins s1 σ H1 x v Q I1 r1 q1)
theorem Qa {f:.dy}{C:Int->Int->Prop}{g:Int->Int->Int}
  (rule:∀(i j:Int) (t u:Tok) (s:Shared) (Q:.m) (E:.m),C i j->Q (.int (g i j) s.toks) { s with toks:=s.toks+1 }->wpAny .q X.A (f (.int i t) (.int j u)) Q E s):
  pz X f (rI C fun i j=>.int (g i j)):=by
 intro pins s σ H x y v u Q I rx ry h
 obtain⟨i,j,rfl,rfl,hc,q⟩:=h
 obtain⟨t,rfl⟩:=rx
 obtain⟨t',rfl⟩:=ry
 exact rule i j t t' s _ _ hc ⟨.int (g i j),H,I.tok _,.aB,q⟩
theorem OI {f:.dy}{g:Int->Int->Int}
  (rule:∀(i j:Int) (t u:Tok) (s:Shared) (Q:.m) (E:.m),Q (.int (g i j) s.toks) { s with toks:=s.toks+1 }->wpAny .q X.A (f (.int i t) (.int j u)) Q E s):
  pz X f (J1 fun i j=>.int (g i j)):=by
 intro pins s σ H x y v u Q I rx ry h
 obtain⟨i,j,rfl,rfl,q⟩:=h
 obtain⟨t,rfl⟩:=rx
 obtain⟨t',rfl⟩:=ry
 exact rule i j t t' s _ _ ⟨.int (g i j),H,I.tok _,.aB,q⟩
theorem JF {f:.dy}{g:Int->Int->Bool}
  (rule:∀(i j:Int) (t u:Tok) (s:Shared) (Q:.m) (E:.m),Q (.bool (g i j)) s->wpAny .q X.A (f (.int i t) (.int j u)) Q E s):
  pz X f (J1 fun i j=>.bl (g i j)):=by
 intro pins s σ H x y v u Q I rx ry h
 obtain⟨i,j,rfl,rfl,q⟩:=h
 obtain⟨t,rfl⟩:=rx
 obtain⟨t',rfl⟩:=ry
 exact rule i j t t' s _ _ ⟨.bl (g i j),H,I,rfl,q⟩
def Iv (i j:Int):Prop:=0≤j/\j≤1000000/\i.natAbs<2^64
theorem L4:pz X (binaryOp .Add) (J1 fun i j=>.int (i+j)):=OI fun _ _ _ _ _ _ _ q=>add_int q
theorem Ma:pz X (binaryOp .Sub) (J1 fun i j=>.int (i-j)):=OI fun _ _ _ _ _ _ _ q=>sub_int q
theorem JH:pz X (binaryOp .Mod) (rI (fun _ j=>j≠0) fun i j=>.int (i.fmod j)):=Qa fun _ _ _ _ _ _ _ hc q=>mod_int' hc q
theorem L8:pz X (binaryOp .Pow) (rI Iv fun i j=>.int (i^j.toNat)):=Qa fun _ _ _ _ _ _ _ hc q=>pow_int_small hc.1 hc.2.1 hc.2.2 q
theorem SK {f:Value->Sem Value}{g:Int->Int}
  (rule:∀(i:Int) (t:Tok) (s:Shared) (Q:.m) (E:.m),Q (.int (g i) s.toks) { s with toks:=s.toks+1 }->wpAny .q X.A (f (.int i t)) Q E s):
  PD X f (rU fun i=>.int (g i)):=by
 intro pins s σ H x v Q I rx h
 obtain⟨i,rfl,q⟩:=h
 obtain⟨t,rfl⟩:=rx
 exact rule i t s _ _ ⟨.int (g i),H,I.tok _,.aB,q⟩
theorem M4:PD X (unaryOp .USub) (rU fun i=>.int (-i)):=SK fun _ _ _ _ _ q=>neg_int q
end
section
variable {X:Cx}{a b c:Expr}{ta tb tc:TE}{pos:Pos}
theorem FV {pins:.s}{σ:St}{H:Hp}{s:Shared}{Q:VK}{k k':Bool}(I:.u)(q:Q (.bl k) H)(e:k=k'):EP X pins σ Q (.bool k') s:=by
 subst e
 exact⟨.bl k,H,I,rfl,q⟩
theorem OM:pz X (.X .Lt) (J1 fun i j=>.bl (decide (i<j))):=JF fun _ _ _ _ _ _ _ q=>lt_int q
theorem OL:pz X (compareOp .LtE) (J1 fun i j=>.bl (decide (i≤j))):=JF fun _ _ _ _ _ _ _ q=>le_int q
theorem OK:pz X (.X .Gt) (J1 fun i j=>.bl (decide (j<i))):=JF fun _ _ _ _ _ _ _ q=>gt_int q
theorem OJ:pz X (compareOp .GtE) (J1 fun i j=>.bl (decide (j≤i))):=JF fun _ _ _ _ _ _ _ q=>ge_int q
theorem L7:pz X (.X .Is) (fun x y H Q=>y=.non/\Q (.an (x=.non)) H):=by
 intro pins s σ H x y v u Q I rx ry h
 obtain⟨rfl,q⟩:=h
 cases ry
 refine is_none_gen (FV I q ?_)
 cases x<;>first
  |(cases rx;rfl)
  |(obtain⟨t,rfl⟩:=rx;rfl)
theorem JI:pz X (compareOp .IsNot) (fun x y H Q=>y=.non/\Q (.bl (!decide (x=.non))) H):=by
 intro pins s σ H x y v u Q I rx ry h
 obtain⟨rfl,q⟩:=h
 cases ry
 refine isnot_none_gen (FV I q ?_)
 cases x<;>first
  |(cases rx;rfl)
  |(obtain⟨t,rfl⟩:=rx;rfl)
theorem aX (b:Expr){op:CmpOp}(h:op≠.In:=by decide)(h2:op≠.NotIn:=by decide):behindInMarks op b=false:=by
 have e1:(op == CmpOp.In)=false:=by cases op<;>first | rfl | exact absurd rfl h
 have e2:(op == CmpOp.NotIn)=false:=by cases op<;>first | rfl | exact absurd rfl h2
 cases b<;>simp [behindInMarks,e1,e2]
theorem JO {op:CmpOp}{r:R2}(ho:pz X (.X op) r)(ha:PE X a ta)(hb:PE X b tb)(hm:behindInMarks op b=false):PE X .eR (Pj r ta tb):=by
 intro pins s σ H Q I h
 exact wpAny_Compare1 (Lj ha hb I h fun v u s2 x y H2 I2 rx ry q=>ho pins s2 σ H2 x y v u Q I2 rx ry q) hm
def K9 (t:TE):TT:=fun σ H Q=>t σ H fun x H'=>∃k,x=.bl k/\Q k H'
theorem JY {op:CmpOp}{r:R2}(ho:pz X (.X op) r)(ha:PE X a ta)(hb:PE X b tb)(hm:behindInMarks op b=false):PT X .eR (K9 (Pj r ta tb)):=by
 intro pins s σ H Q I h
 refine wpAny_isTrue_Compare1 (cR .br fun v s1 .aA=>cR (hb pins s1 σ H1 _ I1 q1) fun u s2 ⟨y,H2,I2,r2,q2⟩ =>
  cR (ho pins s2 σ H2 x y v u _ I2 r1 r2 q2) fun c s3 ⟨z,H3,I3,r3,k,e,q3⟩=>?_) hm
 subst e
 cases r3
 exact wpAny_truthy_bool ⟨H3,I3,q3⟩
def B2 (r r':R2)(ta tb tc:TE):TE:=fun σ H Q=>ta σ H fun x H1=>tb σ H1 fun y H2=>r x y H2 fun z H3=>∃k,z=.bl k /\
 (if k=true then tc σ H3 fun w' H4=>r' y w' H4 Q else Q .Q H3)
theorem Hj {op op':CmpOp}{r r':R2}(ho:pz X (.X op) r)(ho':pz X (.X op') r')(ha:PE X a ta)(hb:PE X b tb)(hc:PE X c tc)
  (hm:lastMarks [op,op'] [b,c]=false:=by with_unfolding_all rfl):PE X .e1 (B2 r r' ta tb tc):=by
 intro pins s σ H Q I h
 refine Compare_chain (cR .br fun v s1 .aA=>chain_link (cR (hb pins s1 σ H1 _ I1 q1) fun u s2 ⟨y,H2,I2,r2,q2⟩ =>
  cR (ho pins s2 σ H2 x y v u _ I2 r1 r2 q2) fun d s3 ⟨z,H3,I3,r3,k,e,q3⟩=>?_)) hm
 subst e
 cases r3
 refine wpAny_truthy_bool ?_
 cases k with
 |false=>exact ite_ff ⟨.bl false,H3,I3,rfl,q3⟩
 |true=>exact ite_tt (chain_last (cR (hc pins s3 σ H3 _ I3 q3) fun w' s4 ⟨z',H4,I4,r4,q4⟩=>ho' pins s4 σ H4 y z' u w' Q I4 r2 r4 q4))
theorem Hy {op op':CmpOp}{r r':R2}(ho:pz X (.X op) r)(ho':pz X (.X op') r')(ha:PE X a ta)(hb:PE X b tb)(hc:PE X c tc)
  (hm:lastMarks [op,op'] [b,c]=false:=by with_unfolding_all rfl):PT X .e1 (K9 (B2 r r' ta tb tc)):=by
 intro pins s σ H Q I h
 refine isTrue_chain (cR .br fun v s1 .aA=>test_link (cR (hb pins s1 σ H1 _ I1 q1) fun u s2 ⟨y,H2,I2,r2,q2⟩ =>
  cR (ho pins s2 σ H2 x y v u _ I2 r1 r2 q2) fun d s3 ⟨z,H3,I3,r3,k,e,q3⟩=>?_)) hm
 subst e
 cases r3
 refine wpAny_truthy_bool ?_
 cases k with
 |false =>
  obtain⟨k',e',q'⟩:=q3
  cases e'
  exact ite_ff ⟨H3,I3,q'⟩
 |true =>
  refine ite_tt (test_last (cR (hc pins s3 σ H3 _ I3 q3) fun w' s4 ⟨z',H4,I4,r4,q4⟩=>cR (ho' pins s4 σ H4 y z' u w' _ I4 r2 r4 q4) fun d' s5 ⟨z2,H5,I5,r5,k2,e2,q5⟩=>?_))
  subst e2
  cases r5
  exact wpAny_truthy_bool ⟨H5,I5,q5⟩
def Lf (K:.l)(x:V)(H:Hp)(k:Bool):Prop:=
 match x with
 | .non=>k=false
 | .bl b=>k=b
 | .int i=>k=(i != 0)
 | .str y=>y.length≤sizeLine/\k=((y.length:Int) != 0)
 | .byt y=>y.size≤sizeLine/\k=((y.size:Int) != 0)
 | .ref p=>(∃xs,gR K H p xs/\k = !xs.isEmpty)\/(∃xs,mM K H p xs/\k = !xs.isEmpty)\/∃kvs,H p=some .bD/\k = !kvs.isEmpty
 |_=>False
theorem Bt {κ:Type}{kvs:.ea}{vs:.eM}(r:KV kvs vs):(!vs.isEmpty) = !kvs.isEmpty:=by
 cases r<;>rfl
theorem sC {xs:List V}{its:.X}(r:Vals xs its):(!its.toArray.isEmpty) = !xs.isEmpty:=by
 cases r<;>simp
theorem pJ:(sizeLine:Nat)<2^63:=by rw [sizeLine_eq];decide
theorem MZ:Qz X (fun x H Q=>∃k,Lf X.K x H k/\Q k H):=by
 intro pins s σ H x v Q I rx h
 obtain⟨k,e,q⟩:=h
 have hl:=pJ
 have hs:sizeLine=16777216:=sizeLine_eq
 cases x with
 |non =>
  cases rx
  have e':k=false:=e
  subst e'
  exact truthy_none ⟨H,I,q⟩
 |bl b =>
  cases rx
  have e':k=b:=e
  subst e'
  exact wpAny_truthy_bool ⟨H,I,q⟩
 |int i =>
  obtain⟨t,rfl⟩:=rx
  have e':k=(i != 0):=e
  subst e'
  exact PySem.P.truthy_int ⟨H,I,q⟩
 |str y =>
  obtain⟨t,rfl⟩:=rx
  obtain⟨hy,e'⟩:y.length≤sizeLine/\k=((y.length:Int) != 0):=e
  subst e'
  exact PySem.P.truthy_str .e ⟨H,I.tok _,q⟩
 |byt y =>
  obtain⟨t,rfl⟩:=rx
  obtain⟨hy,e'⟩:y.size≤sizeLine/\k=((y.size:Int) != 0):=e
  subst e'
  exact PySem.W.truthy_bytes .e ⟨H,I.tok _,q⟩
 |ref p =>
  cases rx
  have e':(∃xs,gR X.K H p xs/\k = !xs.isEmpty)\/(∃xs,mM X.K H p xs/\k = !xs.isEmpty)\/∃kvs,H p=some .bD/\k = !kvs.isEmpty:=e
  rcases e' with ⟨xs,hx,e'⟩ | ⟨xs,hx,e'⟩ | ⟨kvs,hx,e'⟩
  ·subst e'
   obtain⟨its,r,pl,hz⟩:=I.list hx
   have hlen:=r.length
   exact wpAny_truthy_list pl.isList (by simp only [List.size_toArray];omega) ⟨H,I.tok _,by rw [sC r];exact q⟩
  ·subst e'
   obtain⟨its,r,pl,hz⟩:=I.tuple hx
   have hlen:=r.length
   exact truthy_tuple pl (by simp only [List.size_toArray];omega) ⟨H,I.tok _,by rw [sC r];exact q⟩
  ·subst e'
   obtain⟨hz,hS,vs,r,m⟩:kvs.length≤sizeLine/\(p == sysModules)=false/\∃vs,KV kvs vs/\s.heap.DictOf (dE X.prog X.w) p vs:=I.hok p _ hx
   have hlen:kvs.length=vs.length:=Paired.length r
   exact wpAny_truthy_dict hS m .e ⟨H,I.tok _,by rw [Bt r];exact q⟩
 |_=>exact (show False from e).elim
theorem Hz (ha:PE X a ta)(he:∀whole,isTrue a X.env whole=(do let v <- whole;standAt a.pos;holding [v] (truthy v))):
  PT X a (fun σ H Q=>ta σ H fun x H'=>∃k,Lf X.K x H' k/\Q k H'):=by
 intro pins s σ H Q I h
 exact isTrue_plain (cR .br fun v s1 .aA=>MZ pins s1 σ H1 x v Q I1 r1 q1) (he _)
theorem BM:pz X (binaryOp .Add) (fun x y H Q=>∃i j,x=.str i/\y=.str j/\i.length+j.length≤sizeLine/\Q (.str (i++j)) H):=by
 intro pins s σ H x y v u Q I rx ry h
 obtain⟨i,j,rfl,rfl,hz,q⟩:=h
 obtain⟨t,rfl⟩:=rx
 obtain⟨t',rfl⟩:=ry
 exact add_str (fun t' tk=>⟨.str (i++j),H,I.tok _,.aB,q⟩) hz
theorem vals1 {x:V}{us:.X}(r:Vals [x] us):∃u,us=[u]/\RelV x u:=by
 cases r with
 |cons r1 r2=>cases r2;exact⟨_,rfl,r1⟩
theorem vals2 {x y:V}{us:.X}(r:Vals [x,y] us):∃u w',us=[u,w']/\RelV x u/\RelV y w':=by
 cases r with
 |cons r1 r2 =>
  cases r2 with
  |cons r3 r4=>cases r4;exact⟨_,_,rfl,r1,r3⟩
theorem Fm:gb X (.builtin "abs") (fun xs H Q=>∃i,xs=[.int i]/\Q (.j (if i<0 then -i else i)) H):=by
 intro pins s σ H xs us Q I r h
 obtain⟨i,rfl,q⟩:=h
 obtain⟨u,rfl,t,rfl⟩:=vals1 r
 exact call_abs_int fun u tk=>⟨.int (if i<0 then -i else i),H,I.tok _,.aB,q⟩
theorem DX (hc:.bL):gb X (.builtin "min") (fun xs H Q=>∃i j,xs=[.int i,.int j]/\Q (.j (if j<i then j else i)) H):=by
 intro pins s σ H xs us Q I r h
 obtain⟨i,j,rfl,q⟩:=h
 obtain⟨u,w',rfl,⟨t,rfl⟩,⟨t',rfl⟩⟩:=vals2 r
 refine min_two_ints .cX fun h' tk k=>⟨_,H,I.kept k,?_,q⟩
 by_cases hj:j<i
 ·rw [if_pos hj,if_pos hj];exact⟨_,rfl⟩
 ·rw [if_neg hj,if_neg hj];exact⟨_,rfl⟩
theorem DU:gb X (.type "int") (fun xs H Q=>(∃i,xs=[.int i]/\Q (.j i) H)\/∃k,xs=[.bl k]/\Q (.j (if k then 1 else 0)) H):=by
 intro pins s σ H xs us Q I r h
 rcases h with ⟨i,rfl,q⟩ | ⟨k,rfl,q⟩
 ·obtain⟨u,rfl,t,rfl⟩:=vals1 r
  exact call_int_int ⟨.int i,H,I,.aB,q⟩
 ·obtain⟨u,rfl,r1⟩:=vals1 r
  cases r1
  exact call_int_bool ⟨.int (if k then 1 else 0),H,I.tok _,.aB,q⟩
theorem wH:gb X (.type "str") (fun xs H Q=>∃i,xs=[.int i]/\i.natAbs.log2<1920/\Q (.str (toString i)) H):=by
 intro pins s σ H xs us Q I r h
 obtain⟨i,rfl,hz,q⟩:=h
 obtain⟨u,rfl,t,rfl⟩:=vals1 r
 exact PySem.P.str_of_int hz ⟨.str _,H,I.tok _,.aB,q⟩
end
structure AU (h:Heap)(x dx C:Addr)(mA:.G):Prop where
 obj:h.get? x=some (PySem.W.instObj C dx)
 ns:h.Ns1 dx mA
 ne:dx≠x
theorem Et {h:Heap}{dx:Addr}{mA:.G}(n:h.Ns1 dx mA):∃od,h.get? dx=some od/\∀name,PySem.W.lookIn name od=some (mA name):=by
 obtain⟨o,es,ep,ho,hd,hk,_,hm⟩:=n
 refine⟨o,ho,fun name=>?_⟩
 have e:=hm name
 unfold nsFind findBy at e
 rw [<- Array.find?_toList] at e
 unfold PySem.W.lookIn
 rw [hd]
 dsimp only
 split
 ·rename_i y q
  rw [q] at e
  exact congrArg some e
 ·rename_i q
  rw [q] at e
  have a:es.toList.any (·.refKey)=false:=by
   rw [List.any_eq_false]
   intro y hy
   obtain⟨z,t,hkey⟩:=hk y (Array.mem_toList_iff.mp hy)
   simp [DictEntry.refKey,hkey]
  have a':¬ es.toList.any (·.refKey)=true:=by rw [a];exact zaK
  rw [if_neg a']
  exact congrArg some e
theorem AU.look {h:Heap}{x dx C:Addr}{mA:.G}(I:AU h x dx C mA):∃od,PySem.W.InstAt h x (PySem.W.instObj C dx) C (some od)/\∀name,PySem.W.lookIn name od=some (mA name):=
 let ⟨od,ho,hl⟩:=Et I.ns
 ⟨od,⟨I.obj,rfl,rfl,ho⟩,hl⟩
section
variable {prog:.am}{w:World}{A:Around}{E:.m}{s:Shared}{K:.l}{x dx C f:Addr}{mA:.G}{name:Str}{v:Value}
theorem get_map {expr:Bool}{Q:.m}(X:K.In s.heap)(I:AU s.heap x dx C mA)(hg:PySem.W.plainGet K C name=true)(hh:PySem.W.hasDictIn K C=true)
  (ha:PySem.W.findIn K (.c C) name=some none) (hv:mA name=some v) (hv':PySem.W.handedIn v=true) (h:Q v { s with toks:=s.toks+1 }):
  wpAny .M A (getAttr (.c x) name expr) Q E s:=by
 obtain⟨od,J,hl⟩:=I.look
 exact PySem.W.get_value X J (zbG hg).1 (PySem.W.findObj_own hh ha rfl (by rw [hl,hv])) hv' h
theorem Gs {pl:Sem Bool}{Q:Value×List Value->Shared->Prop}(X:K.In s.heap)(I:AU s.heap x dx C mA)(hg:PySem.W.plainGet K C name=true)
  (hf:PySem.W.findIn K (.c C) name=some (.J f)) (ht:PySem.W.isFn K (.c f)=true) (hv:mA name=none) (h:Q (.ref f,[.ref x]) s):
  wpAny .M A (getMethod (.c x) name pl) Q E s:=by
 obtain⟨od,J,hl⟩:=I.look
 exact PySem.W.method_fn X J (zbG hg).1 (zbG hg).2 hf (beq_iff_eq.mp ht) (by show (PySem.W.lookIn name od).map (·.isSome)=some false;rw [hl,hv];rfl) h
theorem J8 {ns:.Y}{Q:.dR}(X:K.In s.heap)(I:AU s.heap x dx C mA)
  (hs:PySem.W.findIn K (.c C) "__setattr__" = some (some (.builtin "object.__setattr__"))) (hp:PySem.W.plainOver K C=true) (ht:PySem.W.takerIn K C name=some none) (hh:PySem.W.hasDictIn K C=true)
  (hw:PySem.Within mA ns) (hsz:ns.length≤sizeLine)
  (h:∀h',AU h' x dx C (fun y=>if y=name then some v else mA y)->Heap.SameBut dx s.heap h'->Q () { s with heap:=h',toks:=s.toks+2 }):
  wpAny .M A (setAttr (.c x) name v) Q E s:=by
 obtain⟨od,J,hl⟩:=I.look
 refine PySem.W.set_plain X J hs (PySem.W.osa_open (s:={ s with toks:=s.toks+1 }) (r:=none) X J hp ht fun b=>?_)
 obtain⟨cd,hc,hd'⟩:=PySem.W.any_some hh
 have hx:s.heap.get? x=some ⟨.ref C,some dx,.plain,#[]⟩:=I.obj
 refine wpAny_bind (.V (.u (wpAny_bind (wpAny_loadPart hx (wpAny_bind (PySem.W.Looks.here (s:={ s with toks:=s.toks+1 }) (PySem.W.looks_clsIn X hc) ?_))))))
 rw [hd']
 refine wpAny_pure (a:=some dx) (.u (.V (wpAny_bind ?_)))
 refine wpAny_nsSet1 (s:={ s with toks:=s.toks+1 }) I.ns fun h' hn2 hs2=>?_
 obtain⟨oD,esD,epD,hoD,hdD,hcD⟩:=hn2.count (PySem.Within.cons name v hw)
 refine wpAny_bind (wpAny_lookBehind hoD (by rw [hdD];exact pastItsLine_dict (zaA hcD (by rw [zaj];omega))) ?_)
 exact wpAny_pure (h _ ⟨(hs2.2 _ (Ne.symm I.ne)).trans I.obj,hn2,I.ne⟩ hs2)
theorem GO {R:.e3}{vs:.X}{kw:.eb}(X:K.In s.heap)(hm:PySem.W.makesIn K C=true)
  (hi:PySem.W.findIn K (.c C) "__init__" = some (.J f)) (hf:PySem.W.typeIn K (.c f)=some (.type "function"))
  (h:codeAny .M (A.under (.builtin "type.__call__" ⟨.ref C::vs,kw⟩)) (.call (.c f) ⟨.ref .ax::vs,kw⟩) (PySem.W.InitBack .ax R)
   { s with heap:=(s.heap.push PySem.W.emptyDict).push .d4 }):
  codeAny .M A (.call (.c C) ⟨vs,kw⟩) R s:=by
 obtain⟨hh,g,d,t,os⟩:=s
 exact PySem.W.make_core (PySem.W.makes_of X hm) (PySem.W.looks_findIn X hi) (fun self=>PySem.W.bind_fn X self hf) .cf h
end
def ku (f:Str)(v:V):List (Str×V)->List (Str×V)
 |[]=>[(f,v)]
 |(g,x)::r=>if g=f then (g,v)::r else (g,x)::ku f v r
theorem qk (f g:Str)(v:V):∀fs:List (Str×V),(ku f v fs).lookup g=if g=f then some v else fs.lookup g
 |[]=>by
  show List.lookup g [(f,v)]=_
  by_cases h:g=f
  ·have hb:(g == f)=true:=beq_iff_eq.mpr h
   simp only [List.lookup,hb,if_pos h]
  ·have hb:(g == f)=false:=beq_eq_false_iff_ne.mpr h
   simp only [List.lookup,hb,if_neg h]
 |(k,x)::r=>by
  have ih:=qk f g v r
  rw [show ku f v ((k,x)::r)=.fg from rfl]
  by_cases hk:k=f
  ·rw [if_pos hk]
   by_cases h:g=k
   ·have hb:(g == k)=true:=beq_iff_eq.mpr h
    simp only [List.lookup,hb,if_pos (h.trans hk)]
   ·have hb:(g == k)=false:=beq_eq_false_iff_ne.mpr h
    simp only [List.lookup,hb,if_neg (fun e:g=f=>h (e.trans hk.symm))]
  ·rw [if_neg hk]
   by_cases h:g=k
   ·have hb:(g == k)=true:=beq_iff_eq.mpr h
    simp only [List.lookup,hb,if_neg (fun e:g=f=>hk (h.symm.trans e))]
   ·have hb:(g == k)=false:=beq_eq_false_iff_ne.mpr h
    simp only [List.lookup,hb]
    exact ih
theorem pH (f:Str)(v:V):∀fs:List (Str×V),f∈(ku f v fs).map (·.1)/\∀g,g∈fs.map (·.1)->g∈(ku f v fs).map (·.1)
 |[]=>⟨by simp [ku],fun g h=>by simp at h⟩
 |(k,x)::r=>by
  obtain⟨i1,i2⟩:=pH f v r
  rw [show ku f v ((k,x)::r)=.fg from rfl]
  by_cases hk:k=f
  ·rw [if_pos hk]
   subst hk
   exact⟨.h,fun g h=>by simpa using h⟩
  ·rw [if_neg hk]
   refine⟨?_,fun g h=>?_⟩
   ·rw [zaf]
    exact zae _ i1
   ·rw [zaf] at h ⊢
    rcases zan.mp h with e | e
    ·exact zan.mpr (.inl e)
    ·exact zae _ (i2 g e)
theorem qj (f:Str)(v:V):∀fs:List (Str×V),(ku f v fs).length≤fs.length+1
 |[]=>by simp [ku]
 |(k,x)::r=>by
  have ih:=qj f v r
  rw [show ku f v ((k,x)::r)=.fg from rfl]
  by_cases hk:k=f
  ·rw [if_pos hk,zaj,zaj];omega
  ·rw [if_neg hk,zaj,zaj];omega
theorem mL.some_of {v:V}{o:.dI}(r:mL .dw o):∃u,o=some u/\RelV v u:=by
 cases o with
 |none=>exact (show False from r).elim
 |some u=>exact⟨u,rfl,r⟩
theorem mL.none_of {o:.dI}(r:mL none o):o=none:=by
 cases o with
 |none=>rfl
 |some u=>exact (show False from r).elim
theorem Ei {v:V}{u:Value}(r:RelV v u):PySem.W.handedIn u=true:=by
 cases v with
 |non=>cases (show u=Value.none from r);rfl
 |bl b=>cases (show u=Value.bool b from r);rfl
 |int i=>obtain⟨t,e⟩:=(show ∃t,u=Value.int i t from r);cases e;rfl
 |str x=>obtain⟨t,e⟩:=(show ∃t,u=Value.str x t from r);cases e;rfl
 |byt b=>obtain⟨t,e⟩:=(show ∃t,u=Value.bytes b t from r);cases e;rfl
 |flt b=>obtain⟨t,e⟩:=(show ∃t,u=Value.float b t from r);cases e;rfl
 |ref a=>cases (show u=Value.ref a from r);rfl
 |ty n=>cases (show u=Value.type n from r);rfl
section
variable {P:.am}{w:World}{H H':Hp}{h h':Heap}{a C dx:Addr}{fs fs':List (Str×V)}
theorem oH (hok:.e7)(e:H a=some (.ah fs)):∃mA,AU h a dx C mA/\(∀f,mL (fs.lookup f) (mA f))/\PySem.Within mA (fs.map (·.1))/\fs.length≤1000/\H dx=some (.own a):=by
 obtain⟨d,z,ne,ob,mA,n,r,q⟩:=(show du P w H h a (.ah fs) from hok a _ e)
 exact⟨mA,⟨ob,n,ne⟩,r,q,z,d⟩
end
structure eC (K:.l)(C:Addr):Prop where
 pg:PySem.W.plainGet K C Str.empty=true
 hd:PySem.W.hasDictIn K C=true
 po:PySem.W.plainOver K C=true
 sa:PySem.W.findIn K (.c C) "__setattr__" = some (some (.builtin "object.__setattr__"))
theorem eC.get {K:.l}{C:Addr}(c:eC K C)(f:Str):PySem.W.plainGet K C f=true:=c.pg
def bo (K:.l)(C:Addr)(f:Str):Prop:=PySem.W.findIn K (.c C) f=some none
theorem bo.taker {K:.l}{C:Addr}{f:Str}(n:bo K C f):PySem.W.takerIn K C f=some none:=by
 unfold PySem.W.takerIn
 rw [show PySem.W.findIn K (.c C) f=some none from n]
 rfl
structure Meth (K:.l)(C:Addr)(m:Str)(f:Addr):Prop where
 at_:PySem.W.findIn K (.c C) m=some (.J f)
 fn:PySem.W.isFn K (.c f)=true
 kp:PySem.W.keepIn K (.c f)=true
section
variable {X:Cx}{pins:.s}{σ:St}{H:Hp}{s:Shared}{a C dx:Addr}{fs:List (Str×V)}{f:Str}{v:V}{A:Around}{E:.m}
theorem Bo {b:Bool}{Q:.m}(I:.u)(e:H a=some (.ah fs))(c:eC X.K C)(n:bo X.K C f)(l:fs.lookup f=some v)
  (h:∀u s',Inv X pins σ H s'->RelV v u->Q u s'):wpAny .q A (getAttr (.c a) f b) Q E s:=by
 obtain⟨mA,O,r,_,_,_⟩:=oH I.hok e
 obtain⟨u,hu,ru⟩:=mL.some_of (v:=v) (o:=mA f) (by rw [<- l];exact r f)
 exact get_map I.kIn O (c.get f) c.hd n hu (Ei ru) (h u _ (I.tok _) ru)
theorem sv {m:Str}{g:Addr}{pl:Sem Bool}{Q:Value×List Value->Shared->Prop}(I:.u)(e:H a=some (.ah fs))(c:eC X.K C)(k:Meth X.K C m g)(l:fs.lookup m=none)
  (h:Q (.ref g,[.ref a]) s):wpAny .q A (getMethod (.c a) m pl) Q E s:=by
 obtain⟨mA,O,r,_,_,_⟩:=oH I.hok e
 have hn:mA m=none:=mL.none_of (by rw [<- l];exact r m)
 exact Gs I.kIn O (c.get m) k.at_ k.fn hn h
theorem BU {y:V}{u:Value}{Q:.dR}(I:.u)(e:H a=some (.ah fs))(c:eC X.K C)(n:bo X.K C f)(hl:fs.length<1000)(ry:RelV y u)
  (h:∀s',Inv X pins σ (upd H a (.ah (ku f y fs))) s'->Q () s'):wpAny .q A (setAttr (.c a) f u) Q E s:=by
 obtain⟨mA,O,r,wi,_,ho⟩:=oH I.hok e
 have hz:(fs.map (·.1)).length≤sizeLine:=by rw [zah,sizeLine_eq];omega
 refine J8 I.kIn O c.sa c.po n.taker c.hd wi hz fun h' O' sb=>h _ ?_
 have hd:∃o,h'.get? dx=some o:=let ⟨o,_,_,e',_⟩:=O'.ns;⟨o,e'⟩
 refine I.write (x:=a) (e:=dx) .fF (.inr ho) (fun b q hb z=>(sb.2 b hb).trans z) hd ?_
 refine⟨by rw [aE O.ne];exact ho,?_,O.ne,O'.obj,_,O'.ns,fun g=>?_,fun g hg=>?_⟩
 ·have:=qj f y fs;omega
 ·show mL ((ku f y fs).lookup g) (if g=f then some u else mA g)
  rw [qk]
  by_cases q:g=f
  ·rw [if_pos q,if_pos q];exact ry
  ·rw [if_neg q,if_neg q];exact r g
 ·by_cases q:g=f
  ·rw [q];exact (pH f y fs).1
  ·refine (pH f y fs).2 g (wi g fun z=>hg ?_)
   show (if g=f then some u else mA g)=none
   rw [if_neg q];exact z
theorem Inv.made (I:.u):Inv X pins σ (upd (.z (.own .ax)) .ax (.ins C s.heap.objs.size []))
  { s with heap:=(s.heap.push PySem.W.emptyDict).push .d4 }:=by
 have e1:(s.heap.push PySem.W.emptyDict).get? s.heap.objs.size=some PySem.W.emptyDict:=Heap.get?_push_size s.heap rfl
 have e2:((s.heap.push PySem.W.emptyDict).push .d4).get? .ax=some .d4:=by
  have:=Heap.get?_push_size (s.heap.push PySem.W.emptyDict) (o:=PySem.W.instObj C s.heap.objs.size) rfl
  rwa [Heap.size_push] at this
 have e3:(s.heap.push PySem.W.emptyDict).Ns s.heap.objs.size (fun _=>none):=⟨PySem.W.emptyDict,#[],_,e1,rfl,(fun e he=>absurd he .h),fun _=>rfl⟩
 have I1:=I.laid (a:=s.heap.objs.size) (o:=.own .ax) (h':=s.heap.push PySem.W.emptyDict) (t':=s.toks) (fun b u q=>Heap.get?_push_of_some _ q) .bU ⟨_,e1⟩
 refine I1.laid (a:=s.heap.objs.size+1) (o:=.ins C s.heap.objs.size []) (t':=s.toks) (fun b u q=>Heap.get?_push_of_some _ q) (Nat.le_of_eq (Heap.size_push _ _)) ?_
 have ne:s.heap.objs.size≠s.heap.objs.size+1:=zaq (zbj _)
 refine⟨by rw [aE ne,aQ],za6 _,ne,e2,fun _=>none,(Heap.Ns1.of_empty e3).at fun o q=>Heap.get?_push_of_some _ q,fun _=>True.intro,fun y hy=>absurd rfl hy⟩
theorem IA {prog:.am}{w:World}{env:Env}{e:Expr}{f:Str}{pos:Pos}{s:Shared}{Q:.m}(hb:attributeBase e f env (eval e env)=eval e env)
  (h:wpAny .M A (eval e env) (fun o s₁=>wpAny .M A (getAttr o f true) Q E s₁) E s):wpAny .M A (eval (.Attribute e f pos) env) Q E s:=
 Attribute_any_ h (by rw [arm_eval_Attribute,hb])
end
def Rn (K:.l)(ta:TE)(f:Str):TE:=fun σ H Q=>ta σ H fun x H1=>∃a C dx fs v,x=.ref a/\H1 a=some (.ah fs)/\eC K C/\bo K C f/\fs.lookup f=some v/\Q v H1
def Ri (K:.l)(ta tv:TE)(f:Str):TS:=fun D σ H=>tv σ H fun y H1=>ta σ H1 fun x H2=>∃a C dx fs,x=.ref a/\H2 a=some (.ah fs)/\eC K C/\bo K C f/\fs.length<1000 /\
 D.nx σ (upd H2 a (.ah (ku f y fs)))
section
variable {X:Cx}{o e value:Expr}{f:Str}{pos pos' tpos:Pos}{ta tv:TE}
theorem Mg (he:PE X e ta)(hb:attributeBase e f X.env (.Q e)=eval e X.env):PE X (.Attribute e f pos) (Rn X.K ta f):=by
 intro pins s σ H Q I h
 refine IA hb (cR .ck fun u s1 ⟨x,H1,I1,rx,a,C,dx,fs,v,ex,ea,c,n,l,q⟩=>?_)
 subst ex
 obtain rfl:u=Value.ref a:=rx
 exact Bo I1 ea c n l fun u' s2 I2 ru=>⟨v,H1,I2,ru,q⟩
theorem Mx (ha:PE X o ta)(hv:PE X value tv)(hs:swapsWith value (some (.Attribute o f pos')) pos.line X.env=pure false):PS X (.Assign [.Attribute o f pos'] value pos) (Ri X.K ta tv f):=by
 intro pins s σ H D I h
 refine plainObj_wpAny_Assign_Attribute (cR (hv pins s σ H _ I h) fun u s1 ⟨y,H1,I1,ry,q⟩=>cR (ha pins s1 σ H1 _ I1 q) fun ov s2 ⟨x,H2,I2,rx,a,C,dx,fs,ex,ea,c,n,l,q2⟩=>?_) hs
 subst ex
 obtain rfl:ov=Value.ref a:=rx
 exact BU I2 ea c n l ry fun s3 I3=>⟨σ,_,I3,q2⟩
end
section
variable {X:Cx}{pins:.s}{σ:St}{H:Hp}{s:Shared}{A:Around}{E:.m}{Q:.m}{c:Value}{b:Bool}
inductive qr (K:.l) (H:Hp):V->Value->Prop where
 |non:qr K H .non (.type "NoneType")
 |bl (x:Bool):qr K H (.bl x) (.type "bool")
 |int (i:Int):qr K H (.j i) (.type "int")
 |str (x:Str):qr K H .fH (.type "str")
 |flt (x:UInt64):qr K H (.flt x) (.type "float")
 |lst {a:Addr} {xs:List V} (e:H a=some .c6):qr K H (.c a) (.type "list")
 |frz {a:Addr} {o:Obj} {xs:List V} (e:H a=some (.frz o .c6)):qr K H (.c a) (.type "list")
 |tup {a:Addr} {xs:List V} (e:H a=some .eJ):qr K H (.c a) (.type "tuple")
 |dK {a:Addr} {kvs:.cs} (e:H a=some .bD):qr K H (.c a) (.type "dict")
 |dT {a:Addr} {kvs:.da} (e:H a=some (.dT kvs)):qr K H (.c a) (.type "dict")
 |ins {a C dx:Addr} {fs:List (Str×V)} (e:H a=some (.ah fs)) (cl:eC K C) (ha:PySem.W.findIn K (.c C) "__class__" = some (some .cQ))
   (hn:PySem.W.specialIn K .cQ "__get__" = some (some (.builtin "getset_descriptor.__get__"))) (htk:PySem.W.takesIn K .cQ=some true)
   (hm:PySem.W.mroIn K C (.type "object")=some true):qr K H (.c a) (.c C)
theorem Eo {x:V}{u t:Value}(I:.u)(rx:RelV x u)(ty:qr X.K H x t)(e:PySem.W.kitOne X.K t c=some b)(h:∀tk,Q (.bool b) { s with toks:=tk }):
  wpAny .q A (call .ft [u,c]) Q E s:=by
 cases ty with
 |non=>cases (show u=Value.none from rx);exact zaG PySem.W.kitx_none I.kIn True.intro e .bo h
 |bl y=>cases (show u=Value.bool y from rx);exact zaG PySem.W.kitx_bool I.kIn True.intro e .bo h
 |int i=>obtain⟨t,q⟩:=(show ∃t,u=Value.int i t from rx);cases q;exact zaG PySem.W.kitx_int I.kIn True.intro e .bo h
 |str y=>obtain⟨t,q⟩:=(show ∃t,u=Value.str y t from rx);cases q;exact zaG PySem.W.kitx_str I.kIn True.intro e .bo h
 |flt y=>obtain⟨t,q⟩:=(show ∃t,u=Value.float y t from rx);cases q;exact zaG PySem.W.kitx_float I.kIn True.intro e .bo h
 |@lst a xs ea =>
  cases (show u=Value.ref a from rx)
  obtain⟨_,_,n,_,h1⟩:=(show du X.prog X.w H s.heap a .c6 from I.hok a _ ea)
  exact zaG zbv I.kIn ⟨_,h1,rfl⟩ e .bo h
 |@frz a ob xs ea =>
  cases (show u=Value.ref a from rx)
  obtain⟨_,_,_,n,_,h1⟩:=(show du X.prog X.w H s.heap a (.frz ob .c6) from I.hok a _ ea)
  exact zaG zbv I.kIn ⟨_,h1,rfl⟩ e .bo h
 |@tup a xs ea =>
  cases (show u=Value.ref a from rx)
  obtain⟨_,_,_,p⟩:=(show du X.prog X.w H s.heap a .eJ from I.hok a _ ea)
  obtain⟨o,h1,h2,_⟩:=p
  exact zaG PySem.W.kitx_tuple I.kIn ⟨o,h1,h2⟩ e .bo h
 |@dK a kvs ea =>
  cases (show u=Value.ref a from rx)
  obtain⟨_,_,vs,_,p⟩:=(show du X.prog X.w H s.heap a .bD from I.hok a _ ea)
  obtain⟨o,es,ep,h1,h2,_⟩:=p
  exact zaG zbS I.kIn ⟨o,h1,h2.1⟩ e .bo h
 |@dT a kvs ea =>
  cases (show u=Value.ref a from rx)
  obtain⟨_,_,xs,_,o,es,ep,h1,h2,_⟩:=(show du X.prog X.w H s.heap a (.dT kvs) from I.hok a _ ea)
  exact zaG zbS I.kIn ⟨o,h1,h2.1⟩ e .bo h
 |@ins a C dx fs ea cl ha hn htk hm =>
  cases (show u=Value.ref a from rx)
  obtain⟨mA,O,_⟩:=oH I.hok ea
  obtain⟨od,J,_⟩:=O.look
  exact zaG (PySem.W.kitx_own (cl.get _) cl.hd ha hn htk hm) I.kIn J e .bo h
end
structure eN (k:Nat)(A:Around):Prop where
 hd:A.handled=none
 dp:A.depth+3*k+5<recursionLimit
 un:A.units+16*k+200<cLine
theorem eN.mono {j k:Nat}{A:Around}(r:eN k A)(h:j≤k):eN j A:=⟨r.hd,by have:=r.dp;omega,by have:=r.un;omega⟩
theorem eN.deeper {k:Nat}{A:Around}(r:eN (k+1) A)(env:Env):eN k (A.deeper env):=
 ⟨r.hd,by have:=r.dp;show A.depth+1+3*k+5<_;omega,by have:=r.un;show A.units+3+16*k+200<_;omega⟩
theorem BH {A:Around}{C:Addr}{us:.X}{kw:.eb}:(A.under .cR).depth=A.depth+1:=by
 first | rfl | simp [Around.under,Code.weight,Code.isCreation,Code.isGuard,Code.isCaller,Code.frames,Code.isFrame,guardIds]
theorem BI {A:Around}{C:Addr}{us:.X}{kw:.eb}:(A.under .cR).units=A.units+1:=by
 first | rfl | simp [Around.under,Code.cUnits,Code.frames,Code.isFrame]
theorem eN.make {k:Nat}{A:Around}(r:eN (k+1) A)(C:Addr)(us:.X)(kw:.eb):eN k (A.under .cR):=
 ⟨r.hd,by have:=r.dp;rw [BH];omega,by have:=r.un;rw [BI];omega⟩
theorem eN.depth {k:Nat}{A:Around}(r:eN k A):A.depth<recursionLimit:=by have:=r.dp;omega
theorem eN.units {k:Nat}{A:Around}(r:eN k A):A.units+64<cLine:=by have:=r.un;omega
def Pg:TA:=fun _ H Q=>Q [] H
def Pb (ta:TE)(tr:TA):TA:=fun σ H Q=>ta σ H fun x H1=>tr σ H1 fun xs H2=>Q (x::xs) H2
section
variable {X:Cx}{e:Expr}{es:.az}{te:TE}{t:TA}{pos:Pos}
theorem tj:PA X [] Pg:=fun _ _ _ _ H Q I h=>Calls.spliced_nil ⟨[],H,I,.nil,h⟩
theorem kr (ha:PE X e te)(hr:PA X es t)(hs:starEach (e::es) X.env=(.i e)::starEach es X.env:=by rfl):PA X (e::es) (Pb te t):=by
 intro pos pins s σ H Q I h
 rw [hs]
 show wpAny _ _ (spliced ((.i e)::backTo pos .a6)) _ _ s
 refine Calls.spliced_cons (cR .br fun u s1 .aA=>?_)
 exact cR (hr pos pins s1 σ H1 _ I1 q1) fun us s2 ⟨xs,H2,I2,r2,q2⟩=>⟨x::xs,H2,I2,.cons r1 r2,q2⟩
def Ry (t:TA):TE:=fun σ H Q=>t σ H fun xs H1=>xs.length≤sizeLine/\∀p,H1 p=none->Q (.c p) (upd H1 p .eJ)
def Rr (t:TA):TE:=fun σ H Q=>t σ H fun xs H1=>xs.length≤sizeLine/\∀p,H1 p=none->Q (.c p) (upd H1 p .c6)
theorem Mo {x1}(h:PA X es t):PE X (.Tuple es x1 pos) (Ry t):=by
 intro pins s σ H Q I hq
 refine wpAny_Tuple_spliced (cR (h pos pins s σ H _ I hq) fun us s1 ⟨xs,H1,I1,r,z,q⟩=>⟨by rw [<- r.length];exact z,?_⟩)
 have hf:H1 s1.heap.objs.size=none:=I1.hok.fresh .bU
 refine⟨.ref s1.heap.objs.size,upd H1 s1.heap.objs.size .eJ,I1.laid (t':=s1.toks) .dD .bU ?_,rfl,q _ hf⟩
 exact⟨z,us,r,.fd⟩
theorem Hm (h:PA X es t):PE X (.List es pos) (Rr t):=by
 intro pins s σ H Q I hq
 refine wpAny_List_spliced (cR (h pos pins s σ H _ I hq) fun us s1 ⟨xs,H1,I1,r,z,q⟩=>⟨by rw [<- r.length];exact z,?_⟩)
 have hf:H1 s1.heap.objs.size=none:=I1.hok.fresh .bU
 refine⟨.ref s1.heap.objs.size,upd H1 s1.heap.objs.size .c6,I1.laid (t':=s1.toks) .dD .bU ?_,rfl,q _ hf⟩
 exact⟨z,us,0,r,Heap.get?_push_size _ rfl⟩
end
abbrev Sp:=List V->Hp->VK->XK->Prop
abbrev DL:=List Env->Hp->Shared->XK->Value->Shared->Prop
structure AR (P:.am)(w:World)(K:.l)(mg:.G)(base:Heap)(A:Around)(outer:.e4)(s:Shared)(H:Hp):Prop where
 frames:A.frames=some outer
 mod:Mod K mg base
 bs:∀b o,base.get? b=some o->s.heap.get? b=some o/\H b=none
 bsz:base.objs.size≤s.heap.objs.size
 funs:s.heap.FunFrames base outer
 frf:∀b∈vL outer,H b=none
 hok:ly P w H s.heap
 bare:AllBare s.gens
def CE (outer:.e4)(P:.am)(w:World)(H:Hp)(s:Shared)(Q:VK)(u:Value)(s':Shared):Prop:=
 ∃v H',s'.os=s.os/\AllBare s'.gens/\Un (vL outer) [] H H' s.heap s'.heap/\ly P w H' s'.heap/\RelV v u/\Q v H'
def CR (CX:DL)(outer:.e4)(P:.am)(w:World)(H:Hp)(s:Shared)(Q:VK)(E:XK)(r:Result)(s':Shared):Prop:=
 match r with
 | .ok (.ret u)=>CE outer P w H s Q u s'
 | .ok _=>False
 | .error e=>CX outer H s E e s'
structure iz (P:.am)(w:World)(K:.l)(mg:.G)(base:Heap)(CX:DL)(k:Nat)(f:Addr)(fd:.e5)(ps:.Y)(sp:Sp):Prop where
 len:∀vs H Q E,sp vs H Q E->vs.length=ps.length
 run:∀(A:Around) (outer:.e4) (s:Shared) (H:Hp) (args:Args) (us:.X) (vs:List V) (Q:VK) (E:XK),eN k A->AR P w K mg base A outer s H->BindsTo s fd args (ps.zip us)->Vals vs us->sp vs H Q E ->
  codeAny (model P w) A (.call (.c f) args) (CR CX outer P w H s Q E) s
theorem iz.mono {P:.am}{w:World}{K:.l}{mg:.G}{base:Heap}{CX:DL}{j k:Nat}{f:Addr}{fd:.e5}{ps:.Y}{sp:Sp}(F:iz P w K mg base CX j f fd ps sp)(h:j≤k):
  iz P w K mg base CX k f fd ps sp:=⟨F.len,fun A outer s H args us vs Q E hr=>F.run A outer s H args us vs Q E (hr.mono h)⟩
theorem iz.imp {P:.am}{w:World}{K:.l}{mg:.G}{base:Heap}{CX:DL}{k:Nat}{f:Addr}{fd:.e5}{ps:.Y}{sp sp':Sp}(F:iz P w K mg base CX k f fd ps sp)
  (h:∀vs H Q E,sp' vs H Q E->sp vs H Q E):iz P w K mg base CX k f fd ps sp':=
 ⟨fun vs H Q E q=>F.len vs H Q E (h _ _ _ _ q),fun A outer s H args us vs Q E hr he hb hv hs=>F.run A outer s H args us vs Q E hr he hb hv (h _ _ _ _ hs)⟩
theorem AR.make {P:.am}{w:World}{K:.l}{mg:.G}{base:Heap}{A:Around}{outer:.e4}{s:Shared}{H:Hp}(e:AR P w K mg base A outer s H)(C:Addr)(us:.X)(kw:.eb):
  AR P w K mg base (A.under .cR) outer s H:=⟨by first | exact e.frames | (simpa [Around.under,Code.envs,Code.isFrame,pushEnvs] using e.frames),e.mod,e.bs,e.bsz,e.funs,e.frf,e.hok,e.bare⟩
section
variable {X:Cx}{pins:.s}{σ:St}{H:Hp}{s s':Shared}
theorem Inv.env0 (I:.u):AR X.prog X.w X.K X.mg X.base X.A X.stack s H:=
 ⟨I.ok.frames,I.ok.mod,I.bs,zaA I.ok.bsz I.sz,I.stack,I.stkFree,I.hok,I.bare⟩
theorem Inv.after {Q:VK}{u:Value}(I:.u)(h:CE X.stack X.prog X.w H s Q u s'):EP X pins σ Q u s':=by
 obtain⟨v,H',os,bare,un,hok,r,q⟩:=h
 obtain⟨hh,g,d,t,os'⟩:=s'
 obtain rfl:os'=s.os:=os
 exact⟨v,H',I.call (h':=hh) (g':=g) (d':=d) (t':=t) (ch:=[]) un hok bare (fun b z=>absurd z .h),r,q⟩
end
def Pa (sp:Sp)(dvs:List V)(E:XK)(t:TA):TE:=fun σ H Q=>t σ H fun vs H1=>sp (vs++dvs) H1 Q E
def HW (C:Addr)(m:Str)(sp:Sp)(dvs:List V)(E:XK)(ta:TE)(t:TA):TE:=fun σ H Q=>ta σ H fun x H1=>∃a dx fs,x=.ref a/\H1 a=some (.ah fs)/\fs.lookup m=none /\
 t σ H1 fun vs H2=>sp (x::(vs++dvs)) H2 Q E
def Pe (C:Addr)(sp:Sp)(dvs:List V)(E:XK)(t:TA):TE:=fun σ H Q=>t σ H fun vs H1=>∀x dx,H1 x=none->H1 dx=none->dx≠x ->
 sp (.ref x::(vs++dvs)) (.M H1 x) (fun v H2=>v=.non/\Q (.c x) H2) E
def Binds (K:.l)(fd:.e5)(ps:.Y)(ds:.X):Prop:=
 ∀(s:Shared) (us:.X),K.In s.heap->(us++ds).length=ps.length->BindsTo s fd ⟨us,[]⟩ (ps.zip (us++ds))
theorem Binds.all {K:.l}{fd:.e5}{ps:.Y}(h:∀us:List Value,us.length=ps.length->bindArgs fd ⟨us,[]⟩=pure (ps.zip us)):Binds K fd ps []:=fun s us _ hl=>by
 rw [zax] at hl ⊢
 exact .of_eq (h us hl)
def Passes (CX:DL)(X:Cx)(E:XK):Prop:=∀(pins:.s) (σ:St) (H:Hp) (s:Shared) (e:Value) (s':Shared),Inv X pins σ H s->CX X.stack H s E e s'->X.xe e s'
section
variable {X:Cx}{CX:DL}{k:Nat}{f C:Addr}{fd:.e5}{ps:.Y}{sp:Sp}{dvs:List V}{ds:.X}{E:XK}{x m:Str}{p pos apos:Pos}{e o:Expr}{es:.az}{ta:TE}{t:TA}
theorem BP {pins:.s}{σ:St}{H:Hp}{s:Shared}{Q:VK}{us:.X}{vs:List V}(F:.ba)(hr:eN k X.A)(hb:Binds X.K fd ps ds)(hd:Vals dvs ds)(hx:Passes CX X E)
  (I:.u) (r:Vals vs us) (h:sp (vs++dvs) H Q E):wpAny .q X.A (call (.c f) us) .bQ X.xe s:=by
 have r2:Vals (vs++dvs) (us++ds):=r.append hd
 have hl:(us++ds).length=ps.length:=by rw [<- r2.length];exact F.len _ _ _ _ h
 refine wpAny_call (codeAny_mono (F.run X.A X.stack s H ⟨us,[]⟩ (us++ds) (vs++dvs) Q E hr I.env0 (hb s us I.kIn hl) r2 h) fun r s' hq=>?_)
 cases r with
 |error e=>exact hx pins σ H s e s' I hq
 |ok fl =>
  cases fl with
  |ret u=>exact I.after hq
  |next=>exact False.elim hq
  |brk=>exact False.elim hq
  |cont=>exact False.elim hq
theorem Dd (F:.ba)(hr:eN k X.A)(hg:Gl X x)(hm:X.mg x=some (.c f))(hk:PySem.W.keepIn X.K (.c f)=true)(hb:Binds X.K fd ps ds)(hd:Vals dvs ds)(hx:Passes CX X E)
  (ha:PA X (e::es) t) (hdb:.L=false:=by decide) (he:starEach (e::es) X.env=(.i e)::starEach es X.env:=by rfl) (hpl:(backTo pos .a6).any (·.1)=false:=by rfl):
  PE X .aV (Pa sp dvs E t):=by
 intro pins s σ H Q I h
 refine wpAny_Call_Name_kw (oJ I hg hm ?_ hdb)
 refine zbO (h₀:=X.base) I.ok.mod.kin hk (cR .eB fun us s1 ⟨vs,H1,I1,r,q⟩=>⟨I1.kIn,?_⟩) he hpl
 exact BP F hr hb hd hx I1 r q
theorem JR {pl:Sem Bool}(he:PE X o ta)(c:eC X.K C)(hm:Meth X.K C m f)(F:.ba)(hr:eN k X.A)(hb:Binds X.K fd ps ds)(hd:Vals dvs ds)(hx:Passes CX X E)(ha:PA X (e::es) t)
  (hst:starEach (e::es) X.env=(.i e)::starEach es X.env:=by rfl) (hpl:(backTo pos .a6).any (·.1)=false:=by rfl)
  (ht:eval .fx X.env=(do
   let ov <- eval o X.env
   standAt apos.atName
   let (f,first) <- holding [ov] (getMethod ov m pl)
   callWith pos f first (backTo pos (starEach (e::es) X.env)) (backToKw pos .cL)):=by rfl):
  PE X .fx (HW C m sp dvs E ta t):=by
 intro pins s σ H Q I h
 refine PySem.W.methodCall_KW (pl:=pl) (cR .ck fun u s1 ⟨x,H1,I1,rx,a,dx,fs,ex,ea,l,q⟩=>?_) ht
 subst ex
 obtain rfl:u=Value.ref a:=rx
 refine sv I1 ea c hm l ?_
 refine zbO (first:=[.ref a]) (h₀:=X.base) I.ok.mod.kin hm.kp (cR (ha pos pins s1 σ H1 _ I1 q) fun us s2 ⟨vs,H2,I2,r,q2⟩=>⟨I2.kIn,?_⟩) hst hpl
 exact BP (us:=.ref a::us) (vs:=.ref a::vs) F hr hb hd hx I2 (.cons rfl r) q2
theorem Hn {pl:Sem Bool}(he:PE X o ta)(c:eC X.K C)(hm:Meth X.K C m f)(F:.ba)(hr:eN k X.A)(hb:Binds X.K fd ps ds)(hd:Vals dvs ds)(hx:Passes CX X E)
  (ht:eval (.Call (.S m) [] [] pos) X.env=(do
   let ov <- eval o X.env
   standAt apos.atName
   let (f,first) <- holding [ov] (getMethod ov m pl)
   callWith pos f first (backTo pos (starEach [] X.env)) (backToKw pos .cL)):=by rfl):
  PE X (.Call (.S m) [] [] pos) (HW C m sp dvs E ta Pg):=by
 intro pins s σ H Q I h
 refine PySem.W.methodCall_KW (pl:=pl) (cR .ck fun u s1 ⟨x,H1,I1,rx,a,dx,fs,ex,ea,l,q⟩=>?_) ht
 subst ex
 obtain rfl:u=Value.ref a:=rx
 refine sv I1 ea c hm l ?_
 exact PySem.W.callWith_K0 (first:=[.ref a]) I1.kIn hm.kp (BP (us:=[.ref a]) (vs:=[.ref a]) F hr hb hd hx I1 (.aq rfl) q)
structure Mk (K:.l)(C f:Addr):Prop where
 makes:PySem.W.makesIn K C=true
 init:PySem.W.findIn K (.c C) "__init__" = some (.J f)
 fn:PySem.W.isFn K (.c f)=true
 kp:PySem.W.keepIn K (.c C)=true
theorem HB {pins:.s}{σ:St}{H:Hp}{s:Shared}{Q:VK}{us:.X}{vs:List V}(M:Mk X.K C f)(F:.ba)(hr:eN (k+1) X.A)(hb:Binds X.K fd ps ds)(hd:Vals dvs ds)
  (hx:Passes CX X E) (I:.u) (r:Vals vs us)
  (h:∀x dx,H x=none->H dx=none->dx≠x->sp (.ref x::(vs++dvs)) (.M H x) (fun v H2=>v=.non/\Q (.c x) H2) E):
  wpAny .q X.A (call (.c C) us) .bQ X.xe s:=by
 have hq:=h .ax s.heap.objs.size (I.hok.fresh (zbV _)) (I.hok.fresh .bU) (zaq (zbj _))
 have I2:=Inv.made (C:=C) I
 have r2:Vals (V.ref .ax::(vs++dvs)) (Value.ref .ax::(us++ds)):=.cons rfl (r.append hd)
 have hl:(Value.ref .ax::us++ds).length=ps.length:=by
  have e:=r2.length
  rw [F.len _ _ _ _ hq] at e
  exact e.symm
 refine wpAny_call (GO (f:=f) I.kIn M.makes M.init (beq_iff_eq.mp M.fn) (codeAny_mono (F.run _ X.stack _ _ ⟨Value.ref .ax::us,[]⟩ (Value.ref .ax::(us++ds)) _ _ E (hr.make C us [])
  (I2.env0.make C us []) (hb _ (Value.ref .ax::us) I2.kIn hl) r2 hq) fun r s' hq'=>?_))
 cases r with
 |error e=>exact hx pins σ _ _ e s' I2 hq'
 |ok fl =>
  cases fl with
  |ret u =>
   obtain⟨v,H',I3,rv,ev,q3⟩:=I2.after hq'
   subst ev
   exact⟨rv,⟨V.ref .ax,H',I3,rfl,q3⟩⟩
  |next=>exact False.elim hq'
  |brk=>exact False.elim hq'
  |cont=>exact False.elim hq'
theorem JQ (M:Mk X.K C f)(F:.ba)(hr:eN (k+1) X.A)(hg:Gl X x)(hm:X.mg x=some (.c C))(hb:Binds X.K fd ps ds)(hd:Vals dvs ds)(hx:Passes CX X E)
  (ha:PA X (e::es) t) (hdb:.L=false:=by decide) (he:starEach (e::es) X.env=(.i e)::starEach es X.env:=by rfl) (hpl:(backTo pos .a6).any (·.1)=false:=by rfl):
  PE X .aV (Pe C sp dvs E t):=by
 intro pins s σ H Q I h
 refine wpAny_Call_Name_kw (oJ I hg hm ?_ hdb)
 refine zbO (h₀:=X.base) I.ok.mod.kin M.kp (cR .eB fun us s1 ⟨vs,H1,I1,r,q⟩=>⟨I1.kIn,?_⟩) he hpl
 exact HB M F hr hb hd hx I1 r q
end
section
variable {X:Cx}{CX:DL}{k:Nat}{f C:Addr}{fd:.e5}{ps ks:.Y}{sp:Sp}{E:XK}{x m:Str}{p pos apos kpos:Pos}{e o:Expr}{es:.az}{kws:List Keyword}{te ta:TE}{t tk:TA}{nm:Option Str}
variable {g:List Value->List Value->List Value}{gV:List V->List V->List V}
end
structure aK (N P:.Y)(sc:Scope):Prop where
 kind:sc.kind=.function
 co:sc.isCoroutine=false
 gen:sc.isGenerator=false
 nd:N.Nodup
 pre:N.take P.length=P
 par:∀x∈P,sc.names.lookup x=some .local\/sc.names.lookup x=some .cell
 nofree:∀y∈sc.names,y.2≠.free
theorem vt {kindOf:Str->Option NameKind}{x:Str}:∀{binds:.eb} {m:.G},(∀v,(x,v)∉binds)->bindL kindOf binds m x=m x
 |[],_,_=>rfl
 |(n,v)::r,m,h=>by
  unfold bindL
  rw [vt fun w hw=>h w (zae _ hw)]
  split
  ·have:x≠n:=by rintro rfl;exact h v zad
   simp [this]
  ·rfl
theorem vp {kindOf:Str->Option NameKind}{x:Str}:∀{binds:.eb} {m:.G},(∀v,(x,v)∉binds)->bindC kindOf binds m x=m x
 |[],_,_=>rfl
 |(n,v)::r,m,h=>by
  unfold bindC
  rw [vp fun w hw=>h w (zae _ hw)]
  split
  ·rfl
  ·have:x≠n:=by rintro rfl;exact h v zad
   simp [this]
theorem vq {kindOf:Str->Option NameKind}{x:Str}{v:Value}:∀{P:.Y} {vs:.X} {i:Nat} {m:.G},P.Nodup->P[i]? = some x->vs[i]? = some v->kindOf x=some .local ->
  bindL kindOf (P.zip vs) m x=some v
 |[],_,_,_,_,h,_,_=>by simp at h
 |_::_,[],_,_,_,_,h,_=>by simp at h
 |p::P,w::vs,0,m,nd,h1,h2,hk=>by
  simp at h1 h2;subst h1;subst h2
  show bindL kindOf ((p,w)::P.zip vs) m p=_
  unfold bindL
  rw [vt fun v hv=>(zbe.mp nd).1 (zbH hv).1,if_pos hk]
  simp
 |p::P,w::vs,i+1,m,nd,h1,h2,hk=>by
  show bindL kindOf ((p,w)::P.zip vs) m x=_
  unfold bindL
  exact vq (i:=i) (List.nodup_cons.mp nd).2 (by simpa using h1) (by simpa using h2) hk
theorem vo {kindOf:Str->Option NameKind}{x:Str}{v:Value}:∀{P:.Y} {vs:.X} {i:Nat} {m:.G},P.Nodup->P[i]? = some x->vs[i]? = some v->kindOf x≠some .local ->
  bindC kindOf (P.zip vs) m x=some v
 |[],_,_,_,_,h,_,_=>by simp at h
 |_::_,[],_,_,_,_,h,_=>by simp at h
 |p::P,w::vs,0,m,nd,h1,h2,hk=>by
  simp at h1 h2;subst h1;subst h2
  show bindC kindOf ((p,w)::P.zip vs) m p=_
  unfold bindC
  rw [vp fun v hv=>(zbe.mp nd).1 (zbH hv).1,if_neg hk]
  simp
 |p::P,w::vs,i+1,m,nd,h1,h2,hk=>by
  show bindC kindOf ((p,w)::P.zip vs) m x=_
  unfold bindC
  exact vo (i:=i) (List.nodup_cons.mp nd).2 (by simpa using h1) (by simpa using h2) hk
def start (N:.Y)(vs:List V):St:=vs.map some++List.replicate (N.length-vs.length) none
def rS (CX:DL)(P:.am)(w:World)(K:.l)(mg:.G)(base:Heap)(N:.Y)(qual:Str)(scope:Scope)(f:Addr)(cd:Value)(A:Around)(outer:.e4)(s:Shared)(H:Hp)(E:XK):Cx where
 prog:=P
 w:=w
 K:=K
 mg:=mg
 base:=base
 A:=A.deeper (.am cd)
 N:=N
 Y8:=s
 Y9:=H
 env:=envOfC qual scope s.heap.objs.size f cd
 outer:=outer
 stack:=envOfC qual scope s.heap.objs.size f cd::outer
 ex:=[]
 calm:=true
 fn:=fun _=>true
 pn:=[]
 xe:=fun e s'=>wpAny (model P w) (A.deeper (.am cd)) (leaving (.am cd) e) (fun _ s''=>CX outer H s E e s'') (fun e' s''=>CX outer H s E e' s'') s'
theorem yS {sc:Scope}{n:Nat}{x:Str}(h:sc.names.lookup x=some .cell):∃c,(cellsFrom n sc.names []).lookup x=some c:=by
 have q:=PySem.W.cellsFrom_some sc.names n [] (.inl h)
 exact Option.isSome_iff_exists.mp q
theorem Em {CX:DL}{P:.am}{w:World}{K:.l}{mg:.G}{base:Heap}{N ps:.Y}{qual:Str}{scope:Scope}{f:Addr}{cd:Value}{A:Around}{outer:.e4}{s s1:Shared}{H:Hp}{E:XK}{us:.X}{vs:List V}
  (S:aK N ps scope) (hd:A.handled=none) (e0:AR P w K mg base A outer s H) (hl:vs.length=ps.length) (r:Vals vs us)
  (x:InCallC s s.heap.objs.size (bindL (envOfC qual scope s.heap.objs.size f cd).kindOf (ps.zip us) fun _=>none) (cellsFrom .ax scope.names []) (bindC (envOfC qual scope s.heap.objs.size f cd).kindOf (ps.zip us) fun _=>none) s1):
  Inv (rS CX P w K mg base N qual scope f cd A outer s H E) [] (start N vs) H s1:=by
 have hpl:ps.length≤N.length:=by have:=congrArg List.length S.pre;rw [za9] at this;omega
 obtain⟨h1,tk,rfl,hk⟩:=x.done
 have noA:∀b:Addr,b∉(rS CX P w K mg base N qual scope f cd A outer s H E).ex:=fun b z=>absurd (show b∈([]:List Addr) from z) .h
 refine⟨⟨e0.mod,S.kind,rfl,rfl,zak _,fun y z c h1 h2=>?_,fun y hy=>?_,fun y c _ h=>?_,fun _=>hd,Around.frames_deeper e0.frames,.inr ⟨rfl,rfl⟩,fun b z=>absurd z (noA b),e0.bs,e0.bsz,fun b _ _=>noA b,fun b z=>absurd z (noA b),e0.funs,e0.frf⟩,
  rfl,e0.bare,Un.kept hk,⟨_,x.toInCall.ns,fun i y v h1 h2 h3=>?_⟩,fun y c h=>⟨_,x.cell y c h⟩,e0.hok.fresh (Nat.le_refl _),fun y c h=>?_,fun p hp=>absurd (show p∈([]:List (Addr×Obj)) from hp) .h,e0.hok.kept hk,?_⟩
 ·exact name_of_addr x.apart (zaC h1) (zaC h2)
 ·have hy:scope.names.lookup y=some .cell\/scope.names.lookup y=some .free:=hy
  rcases hy with hy | hy
  ·exact yS hy
  ·exact absurd rfl (S.nofree _ (zaC hy))
 ·exact zbN (x.above y c (zaC h))
 ·have hi:i<vs.length:=by
   unfold start at h2
   by_cases hi:i<vs.length
   ·exact hi
   ·rw [List.getElem?_append_right .dr] at h2
    rw [List.getElem?_replicate] at h2
    split at h2<;>cases h2
  have ha:vs[i]? = some v:=by
   unfold start at h2
   rw [List.getElem?_append_left .dr,List.getElem?_map] at h2
   cases e:vs[i]? with
   |none=>rw [e] at h2;cases h2
   |some a=>rw [e] at h2;cases h2;rfl
  obtain⟨u,hu,rv⟩:=r.get ha
  have hp:ps[i]? = some y:=by
   rw [<- S.pre,List.getElem?_take_of_lt .e];exact h1
  have ndP:ps.Nodup:=by rw [<- S.pre];exact S.nd.sublist (List.take_sublist _ _)
  refine⟨u,rv,?_⟩
  rcases S.par y (zbo hp) with k | k
  ·exact .inl ⟨k,vq ndP hp hu k⟩
  ·obtain⟨c,e⟩:=yS (n:=s.heap.objs.size+1) k
   refine .inr ⟨.inl k,c,e,?_⟩
   have q:=x.cell y c e
   rw [vo ndP hp hu (by show scope.names.lookup y≠_;rw [k];decide)] at q
   exact q
 ·exact e0.hok.fresh (zbN (x.above y c (zaC h)))
 ·unfold start
  show _=N.length
  rw [zai,zah,zba]
  omega
theorem N9 {CX:DL}{P:.am}{w:World}{K:.l}{mg:.G}{base:Heap}{k:Nat}{f:Addr}{name qual:Str}{params:Arguments}{body:.bG}{scope:Scope}{dV kV doc pm cdv ct oc:Value}{an od:.cS}
  {osl:Array (Option Value)} {N ps:.Y} {sp:Sp} (lk:K.lookup f=some ⟨oc,od,.func (PySem.W.fnOf name qual params body scope dV kV doc pm an cdv ct),osl⟩) (hcd:PySem.W.codeIn K cdv qual=true) (S:aK N ps scope)
  (len:∀vs H Q E,sp vs H Q E->vs.length=ps.length)
  (hbody:∀(A:Around) (outer:.e4) (s:Shared) (H:Hp) (vs:List V) (Q:VK) (E:XK),eN k (A.deeper (.am cdv))->sp vs H Q E ->
   ∃t,mK .dU body t/\t { nx:=fun _ H'=>Q .non H',rt:=Q } (start N vs) H):
  iz P w K mg base CX (k+1) f (PySem.W.fnOf name qual params body scope dV kV doc pm an cdv ct) ps sp:=by
 refine⟨len,fun A outer s H args us vs Q E hr e0 hb r hsp=>?_⟩
 have hl:=len _ _ _ _ hsp
 have KX:K.In s.heap:=e0.mod.kin.keeps fun b o e=>(e0.bs b o e).1
 have lim:s.heap.NoLimit:=e0.mod.nolimit.keeps fun b o e=>(e0.bs b o e).1
 have hkind:∀y∈ps.zip us,scope.names.lookup y.1=some .local\/(scope.names.lookup y.1=some .cell/\((cellsFrom .ax scope.names []).lookup y.1).isSome=true):=fun⟨n,v⟩ hy=>by
  rcases S.par n (zbH hy).1 with q | q
  ·exact .inl q
  ·exact .inr ⟨q,PySem.W.cellsFrom_some _ _ _ (.inl q)⟩
 refine codeAny_call_function hr.depth (KX _ _ lk) rfl S.co S.gen rfl (PySem.W.codeRec_of KX hcd) (hb _ _ _ _ ?_)
 refine wpAny_newFunctionEnv_cells S.kind hkind fun env he s1 x=>?_
 subst he
 refine⟨lim.keeps x.toInCall.keep,codeAny_func ?_⟩
 obtain⟨t,ht,hq⟩:=hbody A outer s H vs Q E (hr.deeper _) hsp
 have I:Inv .dU [] (start N vs) H s1:=Em S hr.hd e0 hl r x
 refine wpAny_mono (ht [] s1 (start N vs) H _ I hq) (fun fl s' hs=>?_) fun e s' hs=>hs
 have fin:∀{σ':St} {H':Hp} {v:V} {u:Value},Inv .dU [] σ' H' s'->RelV v u->Q v H'->CE outer P w H s Q u s':=
  fun {σ' H' v u} J rv q=>⟨v,H',J.os,J.bare,J.base,J.hok,rv,q⟩
 cases fl with
 |ret u =>
  obtain⟨v,σ',H',J,rv,q⟩:=hs
  exact fin J rv q
 |next =>
  obtain⟨σ',H',J,q⟩:=hs
  exact fin (v:=V.non) (u:=Value.none) J rfl q
 |brk =>
  obtain⟨_,_,_,q⟩:=hs
  exact False.elim q
 |cont =>
  obtain⟨_,_,_,q⟩:=hs
  exact False.elim q
section
variable {X:Cx}{x:Str}{p pos:Pos}{e:Expr}{es:.az}{t:TA}{id T:String}{r:List V->Hp->VK->Prop}
def RM (r:List V->Hp->VK->Prop)(t:TA):TE:=fun σ H Q=>t σ H fun vs H1=>r vs H1 Q
theorem Ae (hc:gb X .d0 r)(hg:Gl X x)(hm:X.mg x=none)(hv:bootBuiltins x=some .d0)(ha:PA X (e::es) t)(hn:x≠"__name__" := by decide)(hdb:.L=false:=by decide)
  (he:starEach (e::es) X.env=(.i e)::starEach es X.env:=by rfl) (hpl:(backTo pos .a6).any (·.1)=false:=by rfl):PE X .aV (RM r t):=by
 intro pins s σ H Q I h
 refine wpAny_Call_Name_kw (pI I hg hm hv ?_ hn hdb)
 exact PyProof.Rows.callWith_builtin1 (cR .eB fun us s1 ⟨vs,H1,I1,r1,q1⟩=>hc pins s1 σ H1 vs us Q I1 r1 q1) he hpl
theorem EC (hc:gb X (.type T) r)(hg:Gl X x)(hm:X.mg x=none)(hv:bootBuiltins x=some (.type T))(ha:PA X (e::es) t)(hn:x≠"__name__" := by decide)(hdb:.L=false:=by decide)
  (he:starEach (e::es) X.env=(.i e)::starEach es X.env:=by rfl) (hpl:(backTo pos .a6).any (·.1)=false:=by rfl):PE X .aV (RM r t):=by
 intro pins s σ H Q I h
 refine wpAny_Call_Name_kw (pI I hg hm hv ?_ hn hdb)
 exact za5 (cR .eB fun us s1 ⟨vs,H1,I1,r1,q1⟩=>hc pins s1 σ H1 vs us Q I1 r1 q1) he hpl
end
end L2
namespace HT
open PySem PyProof.Rows
section
open PySem.SeqAt
open PySem.AutoSeq1 (wpAny_loadPart')
open PySem.MeetsSeq PySem.MeetsSeq2 PySem.MeetsSeq3
end
section
variable {prog:.am}{w:World}{A:Around}{E:.m}{s:Shared}
theorem IB {t b:Addr}{vs ws:.X}{Q:.m}(ht:IsTup s.heap t vs.toArray)(hb:IsTup s.heap b ws.toArray)(hv:vs≠[])
  (h1:ws=[]->Q (.c t) s) (h2:ws≠[]->Q .b7 { s with heap:=s.heap.push { cls:=.type "tuple", data:=.seq (vs++ws).toArray } })
  (hsz:vs.length+ws.length≤sizeLine):wpAny .M A (binaryOp .Add (.c t) (.c b)) Q E s:=by
 obtain⟨⟨cls,dd,data,sl⟩,ho,hc,n,hd⟩:=id ht
 obtain⟨⟨cls2,dd2,data2,sl2⟩,ho2,hc2,n2,hd2⟩:=id hb
 simp only at hc hd hc2 hd2
 subst hc hd hc2 hd2
 have e:vs.toArray++ws.toArray=(vs++ws).toArray:=.h
 by_cases hw:ws=[]
 ·exact concat_meets ⟨_,ho,rfl⟩ ⟨_,ho2,rfl⟩ noFill_tuple_add seq_tuple_add PySem.F.slot_tuple_add PySem.F.entry_tuple_add (PySem.F.args_tuple_add_2 _ _)
   (tuple_addW1 t b vs.toArray ws.toArray n n2 dd dd2 sl sl2 (by simpa using hv) (by simp [hw])) ⟨ho,ho2,h1 hw⟩
 ·refine concat_meets ⟨_,ho,rfl⟩ ⟨_,ho2,rfl⟩ noFill_tuple_add seq_tuple_add PySem.F.slot_tuple_add PySem.F.entry_tuple_add (PySem.F.args_tuple_add_2 _ _)
   (tuple_addW2 t b vs.toArray ws.toArray n n2 dd dd2 sl sl2 (by simpa using hv) (by simpa using hw) (by rw [List.size_toArray,List.size_toArray];exact hsz)) ⟨ho,ho2,?_⟩
  rw [e]
  exact h2 hw
def gw (n d:Nat):Option Int->Nat
 |none=>d
 |some v=>if v<0 then (v+(n:Int)).toNat else min v.toNat n
theorem Aq (n d:Nat):gw n d none=d:=rfl
theorem qW (n d k:Nat):gw n d (some (k:Int))=min k n:=by
 show (if (k:Int)<0 then ((k:Int)+(n:Int)).toNat else min (k:Int).toNat n)=min k n
 rw [if_neg .e,zaM]
theorem MI (n d:Nat)(hd:d≤n)(o:.e8):gw n d o≤n:=by
 cases o with
 |none=>exact hd
 |some v =>
  show (if v<0 then (v+(n:Int)).toNat else min v.toNat n)≤n
  by_cases hv:v<0
  ·rw [if_pos hv];omega
  ·rw [if_neg hv];exact Nat.min_le_right _ _
theorem Co (v:Int)(n d:Nat):(if v<0 then max (v+(n:Int)) 0 else min v (n:Int))=((gw n d .dw:Nat):Int):=by
 show (if v<0 then max (v+(n:Int)) 0 else min v (n:Int))=(((if v<0 then (v+(n:Int)).toNat else min v.toNat n):Nat):Int)
 by_cases hv:v<0
 ·simp only [if_pos hv];omega
 ·simp only [if_neg hv];omega
theorem AX (lo hi:.e8)(n:Nat):Builtin.Slice.sliceAdjust lo hi 1 (n:Int)=(((gw n 0 lo:Nat):Int),((gw n n hi:Nat):Int)):=by
 have h1:¬ ((1:Int)<0):=.e
 unfold Builtin.Slice.sliceAdjust
 simp only [h1,if_false]
 refine Prod.ext ?_ ?_
 ·cases lo with
  |none=>rfl
  |some v=>exact Co v n 0
 ·cases hi with
  |none=>rfl
  |some v=>exact Co v n n
theorem BN (i j:Nat):Builtin.Slice.slicePlaces (i:Int) (j:Int) 1=j-i:=by
 unfold Builtin.Slice.slicePlaces
 have h1:(1:Int)>0:=.e
 simp only [h1,if_true,Int.ediv_one]
 split<;>omega
theorem tU {v:Value}{o:.e8}{Q:Option Int->Shared->Prop}(p:IsPart v o)(h:Q o s):wpAny .M A (Builtin.Slice.slicePartIndex v) Q E s:=by
 cases p with
 |none=>exact slicePart_none h
 |int i t=>exact slicePart_int h
theorem pU {sl:Addr}{vl vu:Value}{lo hi:.e8}{n:Nat}{Q:Int×Int×Nat->Shared->Prop}(hs:s.heap.IsSliceOf sl vl vu .none)(pl:IsPart vl lo)(pu:IsPart vu hi)
  (h:Q (((gw n 0 lo:Nat):Int),1,gw n n hi-gw n 0 lo) s):wpAny .M A (Builtin.Slice.sliceApplied (.c sl) (pure (n:Int))) Q E s:=by
 obtain⟨os,hos,hcs,hds⟩:=id hs
 unfold Builtin.Slice.sliceApplied Builtin.Slice.sliceFields
 refine wpAny_bind (.u (wpAny_field hos hds (x:=vl) rfl (wpAny_bind (wpAny_field hos hds (x:=vu) rfl (wpAny_bind (wpAny_field hos hds (x:=.none) rfl .b9))))))
 refine wpAny_bind (slicePart_none ?_)
 show wpAny _ _ (if ((1:Int) == 0)=true then _ else _) _ _ s
 rw [if_neg .f]
 refine wpAny_bind (tU pl (.u (tU pu (wpAny_bind .b9))))
 show wpAny _ _ (match Builtin.Slice.sliceAdjust lo hi 1 (n:Int) with | (lo,hi)=>pure (lo,(1:Int),Builtin.Slice.slicePlaces lo hi 1)) _ _ s
 rw [AX lo hi n]
 show wpAny _ _ (pure (((gw n 0 lo:Nat):Int),(1:Int),Builtin.Slice.slicePlaces ((gw n 0 lo:Nat):Int) ((gw n n hi:Nat):Int) 1)) _ _ s
 rw [BN]
 exact wpAny_pure h
theorem Hs (xs:.cK)(i k:Nat):((List.range k).filterMap fun (m:Nat)=>xs[((i:Int)+(m:Int)*1).toNat]?).toArray=((xs.toList.drop i).take k).toArray:=by
 have e:(fun (m:Nat)=>xs[((i:Int)+(m:Int)*1).toNat]?)=fun m=>xs[i+m]?:=by
  funext m
  have:((i:Int)+(m:Int)*1).toNat=i+m:=.e
  rw [this]
 rw [e]
 have:=pick_run xs i k
 rw [List.filterMap_map] at this
 have e2:((fun x=>xs[x]?) ∘ fun x=>i+x)=fun m=>xs[i+m]?:=rfl
 rw [e2] at this
 rw [this]
theorem oE {t sl:Addr}{items:.cK}{vl vu:Value}{lo hi:.e8}{Q:.m}(ht:IsTup s.heap t items)(hs:s.heap.IsSliceOf sl vl vu .none)(pl:IsPart vl lo)(pu:IsPart vu hi)
  (hw:¬ (gw items.size 0 lo=0/\gw items.size items.size hi=items.size))
  (h:Q .b7 { s with heap:=s.heap.push { cls:=.type "tuple", data:=.seq ((items.toList.drop (gw items.size 0 lo)).take .eI).toArray } })
  (hsz:items.size≤sizeLine):wpAny .M A (getItem (.c t) (.c sl)) Q E s:=by
 have htake:sizeOk (.seq ((items.toList.drop (gw items.size 0 lo)).take .eI).toArray):=by
  show ((items.toList.drop (gw items.size 0 lo)).take .eI).toArray.size≤sizeLine
  rw [zaE,za9,zbk,zbI]
  omega
 have hj:gw items.size items.size hi≤items.size:=MI _ _ .bU hi
 obtain⟨os,hos,hcs,hds⟩:=id hs
 have hTs:s.TypeIs (.c sl) "slice" := ⟨os,hos,hcs⟩
 unfold getItem
 try with_reducible refine wpAny_holding ?_
 first | refine wpAny_bind .b9 | skip
 refine wpAny_bind (wpAny_sequenceKey ht.typeIs .f ?_)
 refine wpAny_bind (wpAny_callSpecial?_slot (name:=Str.ofString "__getitem__") ht.typeIs zbw
  (wpAny_call_entry zbw ht.typeIs entry_tuple_getitem ?_ (args_tuple_getitem _ _)))
 show wpAny _ _ (Builtin.Tuple.tupleItemsOf (.c t) >>= _) _ _ s
 refine wpAny_bind (tupleItemsOf_ ht ?_)
 refine wpAny_bind (wpAny_typeOf hTs ?_)
 rw [if_pos .f]
 refine wpAny_bind (pU hs pl pu ?_)
 have hno:¬ ((((gw items.size 0 lo:Nat):Int) == 0&&(1:Int) == 1&&(gw items.size items.size hi-gw items.size 0 lo) == items.size)=true):=by
  intro q
  rw [Bool.and_eq_true,Bool.and_eq_true] at q
  have q1:((gw items.size 0 lo:Nat):Int)=0:=eq_of_beq q.1.1
  have q2:gw items.size items.size hi-gw items.size 0 lo=items.size:=eq_of_beq q.2
  exact hw ⟨.e,.e⟩
 show wpAny _ _ (if (((gw items.size 0 lo:Nat):Int) == 0&&(1:Int) == 1&&(gw items.size items.size hi-gw items.size 0 lo) == items.size)=true then _ else _) _ _ s
 rw [if_neg hno,Hs]
 first
  |exact wpAny_bind (m:=Builtin.Tuple.tupleExact _) (wpAny_newObj_type (.V ⟨_,rfl,wpAny_pure h⟩) htake)
  |exact wpAny_bind (m:=Builtin.Tuple.tupleExact _) (wpAny_newObj_type (.u (.V (wpAny_pure ⟨_,rfl,wpAny_pure h⟩))) htake)
  |exact wpAny_bind (wpAny_bind (m:=Builtin.Tuple.tupleExact _) (wpAny_newObj_type (.V (wpAny_pure ⟨_,rfl,wpAny_pure h⟩)) htake))
  |exact wpAny_bind (wpAny_bind (m:=Builtin.Tuple.tupleExact _) (wpAny_newObj_type (.V ⟨_,rfl,wpAny_pure h⟩) htake))
end
end HT
namespace L2
open PySem PySem.Spec PyProof.Rows
abbrev TO:=St->Hp->(Option Int->Hp->Prop)->Prop
def PO (X:Cx)(e:Option Expr)(t:TO):Prop:=
 ∀(pins:.s) (s:Shared) (σ:St) (H:Hp) (Q:Option Int->Hp->Prop),Inv X pins σ H s->t σ H Q ->
  wpAny .q X.A (evalPart e X.env) (fun u s'=>∃o H',Inv X pins σ H' s'/\IsPart u o/\Q o H') X.xe s
def Kk:TO:=fun _ H Q=>Q none H
def Pk (t:TE):TO:=fun σ H Q=>t σ H fun x H1=>∃i,x=.int i/\Q (some i) H1
section
variable {X:Cx}{e:Expr}{te:TE}{lo hi:Option Expr}{tl th:TO}{pos p2:Pos}
theorem JV:PO X none Kk:=by
 intro pins s σ H Q I h
 rw [evalPart_none]
 exact wpAny_pure ⟨none,H,I,.none,h⟩
theorem JW (h:PE X e te):PO X (some e) (Pk te):=by
 intro pins s σ H Q I hw
 rw [evalPart_some]
 refine cR (h pins s σ H _ I hw) fun u s1 .aA=>?_
 obtain⟨i,rfl,q⟩:=q1
 obtain⟨t,rfl⟩:=r1
 exact⟨some i,H1,I1,.int i t,q⟩
def Ku (X:Cx)(r:.c9):Prop:=
 ∀(pins:.s) (s:Shared) (σ:St) (H:Hp) (x:V) (v vl vu:Value) (lo hi:.e8) (sl:Addr) (Q:VK),Inv X pins σ H s->RelV x v->s.heap.IsSliceOf sl vl vu .none->IsPart vl lo->IsPart vu hi->r x lo hi H Q ->
  ∃T id,typeLookup (.type T) "__getitem__" = pure (some .d0)/\s.TypeIs v T/\wpAny .q X.A (getItem v (.c sl)) .bQ X.xe s
theorem Ku.or {r r':.c9}(h:Ku X r)(h':Ku X r'):Ku X (fun x lo hi H Q=>r x lo hi H Q\/r' x lo hi H Q):=by
 intro pins s σ H x v vl vu lo hi sl Q I rx hs pl pu q
 rcases q with q | q
 ·exact h pins s σ H x v vl vu lo hi sl Q I rx hs pl pu q
 ·exact h' pins s σ H x v vl vu lo hi sl Q I rx hs pl pu q
def Sz (r:.c9)(te:TE)(tl th:TO):TE:=fun σ H Q=>te σ H fun x H1=>tl σ H1 fun l H2=>th σ H2 fun u H3=>r x l u H3 Q
theorem Ho {r:.c9}(hr:Ku X r)(he:PE X e te)(hl:PO X lo tl)(hu:PO X hi th):PE X (.U e (.Slice lo hi none p2)) (Sz r te tl th):=by
 intro pins s σ H Q I h
 refine Subscript_ (cR .ck fun v s1 .aA=>?_)
 refine wpAny_Slice (cR (hl pins s1 σ H1 _ I1 q1) fun vl s2 ⟨l,H2,I2,pl,q2⟩=>cR (hu pins s2 σ H2 _ I2 q2) fun vu s3 ⟨u,H3,I3,pu,q3⟩=>?_)
 rw [evalPart_none]
 refine wpAny_pure ?_
 have I4:Inv X pins σ H3 { s3 with heap:=s3.heap.push { cls:=.type "slice", data:=.fields #[vl,vu,.none] } }:=I3.kept (t':=s3.toks) fun b ob q=>Heap.get?_push_of_some _ q
 obtain⟨T,id,hT,ht,hg⟩:=hr pins { s3 with heap:=s3.heap.push { cls:=.type "slice", data:=.fields #[vl,vu,.none] } } σ H3 x v vl vu l u s3.heap.objs.size Q I4 r1 (Heap.IsSliceOf.new ..) pl pu q3
 show wpAny .q X.A (subscriptTail e (.Slice lo hi none p2) v (.ref s3.heap.objs.size)) .bQ X.xe { s3 with heap:=s3.heap.push { cls:=.type "slice", data:=.fields #[vl,vu,.none] } }
 exact tail_any (ops:=[.ref s3.heap.objs.size,v]) ht hT hg (by with_unfolding_all rfl)
def rR (xs:List V)(lo hi:.e8):List V:=(xs.drop (HT.gw xs.length 0 lo)).take .cx
theorem qc (xs:List V)(lo hi:.e8):(rR xs lo hi).length≤xs.length:=by
 unfold rR
 rw [za9,zbk]
 omega
def Rb (K:.l):V->Option Int->Option Int->Hp->VK->Prop:=fun x lo hi H Q=>∃a xs,x=.ref a/\mM K H a xs /\
 ¬ (HT.gw xs.length 0 lo=0/\HT.gw xs.length xs.length hi=xs.length)/\∀p,H p=none->Q (.c p) (upd H p (.tup (rR xs lo hi)))
theorem MP:Ku X (Rb X.K):=by
 intro pins s σ H x v vl vu lo hi sl Q I rx hs pl pu h
 obtain⟨a,xs,rfl,hx,hw,q⟩:=h
 cases rx
 obtain⟨its,r,ht,hz⟩:=I.tuple hx
 have hlen:its.toArray.size=xs.length:=by rw [zaE];exact r.length.symm
 refine⟨"tuple", _,zbw.lookup,ht.typeIs,?_⟩
 refine HT.oE ht hs pl pu (by rw [hlen];exact hw) ?_ (by rw [hlen];exact hz)
 rw [hlen]
 refine⟨.ref s.heap.objs.size,_,I.laid (t':=s.toks) (o:=.tup (rR xs lo hi)) .dt .bU ?_,rfl,q _ (I.hok.fresh .bU)⟩
 exact⟨zaA (qc xs lo hi) hz,_,(r.drop (HT.gw xs.length 0 lo)).take .cx,IsTup.new _ _⟩
def OW (K:.l):R2:=fun x y H Q=>∃a b xs ys,x=.ref a/\y=.ref b/\mM K H a xs/\mM K H b ys/\xs≠[]/\xs.length+ys.length≤sizeLine /\
 (ys=[]->Q (.c a) H)/\(ys≠[]->∀p,H p=none->Q (.c p) (upd H p (.tup (xs++ys))))
theorem Vals.nil_iff {xs:List V}{us:.X}(r:Vals xs us):us=[] ↔ xs=[]:=by
 cases r with
 |nil=>simp
 |cons _ _=>simp
theorem JG:pz X (binaryOp .Add) (OW X.K):=by
 intro pins s σ H x y v u Q I rx ry h
 obtain⟨a,b,xs,ys,rfl,rfl,ha,hb,hx,hz,q1,q2⟩:=h
 cases rx
 cases ry
 obtain⟨its,r1,p1,_⟩:=I.tuple ha
 obtain⟨its2,r2,p2,_⟩:=I.tuple hb
 refine HT.IB p1 p2 (fun z=>hx (r1.nil_iff.mp z)) (fun z=>⟨.ref a,H,I,rfl,q1 (r2.nil_iff.mp z)⟩) (fun z=>?_) (by rw [<- r1.length,<- r2.length];exact hz)
 refine⟨.ref s.heap.objs.size,_,I.laid (t':=s.toks) (o:=.tup (xs++ys)) .dt .bU ?_,rfl,q2 (fun w=>z (r2.nil_iff.mpr w)) _ (I.hok.fresh .bU)⟩
 exact⟨by rw [zai];exact hz,_,r1.append r2,IsTup.new _ _⟩
end
def Nw (n:Nat)(i:Int):Option Nat:=if 0≤i then (if i<n then some i.toNat else none) else if -(n:Int)≤i then some (i+n).toNat else none
def yG {α:Type}(xs:List α)(i:Int):Option α:=(Nw xs.length i).bind fun j=>xs[j]?
theorem Jl {n:Nat}{i:Int}{j:Nat}(h:Nw n i=some j):seqIndex? i n=some j/\j<n /\ -(n:Int)≤i/\i<n:=by
 unfold Nw at h
 by_cases h0:0≤i
 ·rw [if_pos h0] at h
  by_cases h1:i<n
  ·rw [if_pos h1] at h
   have e:i.toNat=j:=zaL h
   exact⟨by rw [seqIndex_of h0 h1,e],.e,.e,h1⟩
  ·rw [if_neg h1] at h;cases h
 ·rw [if_neg h0] at h
  by_cases h1 : -(n:Int)≤i
  ·rw [if_pos h1] at h
   have e:(i+n).toNat=j:=zaL h
   exact⟨by rw [seqIndex_neg .e h1,e],.e,h1,.e⟩
  ·rw [if_neg h1] at h;cases h
theorem wA {α:Type}{xs:List α}{i:Int}{v:α}(h:yG xs i=some v):∃j,seqIndex? i xs.length=some j/\xs[j]? = some v/\j<xs.length /\ -(xs.length:Int)≤i/\i<xs.length:=by
 unfold yG at h
 cases e:Nw xs.length i with
 |none=>rw [e] at h;cases h
 |some j =>
  rw [e] at h
  obtain⟨h1,h2,h3,h4⟩:=Jl e
  exact⟨j,h1,h,h2,h3,h4⟩
theorem qK {α:Type}{xs:List α}{j:Nat}{v:α}(h:xs[j]? = some v):yG xs (j:Int)=some v:=by
 have hj:j<xs.length:=(zas.mp h).1
 have e:Nw xs.length (j:Int)=some j:=by
  unfold Nw
  rw [if_pos .e,if_pos .e];simp
 unfold yG;rw [e];exact h
def Cf (b:Expr):Prop:=∀o i,subscripted b false o i=operate [o,i] (getItem o i)
def M7 (X:Cx)(r:R2):Prop:=
 ∀(value slice:Expr) (pins:.s) (s:Shared) (σ:St) (H:Hp) (x y:V) (v u:Value) (Q:VK),Inv X pins σ H s->RelV x v->RelV y u->r x y H Q ->
  subscripted slice false v u=operate [v,u] (getItem v u)->wpAny .q X.A (subscriptTail value slice v u) .bQ X.xe s
def NI (X:Cx)(id:String)(r:.eT):Prop:=
 ∀(pins:.s) (s:Shared) (σ:St) (H:Hp) (x:V) (xs:List V) (v:Value) (us:.X) (Q:VK),Inv X pins σ H s->RelV x v->Vals xs us->r x xs H Q ->
  wpAny .q X.A (call .d0 (v::us)) .bQ X.xe s
section
variable {X:Cx}{a b:Expr}{ta tb:TE}{pos:Pos}
theorem OQ {r:R2}(hr:M7 X r)(ha:PE X a ta)(hb:PE X b tb)(hs:Cf b):PE X (.U a b) (Pj r ta tb):=by
 intro pins s σ H Q I h
 exact Subscript_ (Lj ha hb I h fun v u s2 x y H2 I2 rx ry q=>hr a b pins s2 σ H2 x y v u Q I2 rx ry q (hs _ _))
def Q6 (K:.l):R2:=fun x y H Q=>∃p xs i v,x=.ref p/\y=.int i/\gR K H p xs/\yG xs i=some v/\Q v H
def Q8 (K:.l):R2:=fun x y H Q=>∃p xs i v,x=.ref p/\y=.int i/\mM K H p xs/\yG xs i=some v/\Q v H
def Q7:R2:=fun x y H Q=>∃z i c,x=.str z/\y=.int i/\z.length≤sizeLine/\yG z.cps.toList i=some c/\Q (.str ⟨#[c]⟩) H
theorem CW:M7 X (Q6 X.K):=by
 intro value slice pins s σ H x y v u Q I rx ry h hs
 obtain⟨p,xs,i,z,rfl,rfl,hq,he,q⟩:=h
 cases rx
 obtain⟨t,rfl⟩:=ry
 obtain⟨its,r,pl,hz⟩:=I.list hq
 obtain⟨j,h1,h2,h3,h4,h5⟩:=wA he
 obtain⟨w,ew,rw'⟩:=r.get h2
 have hl:=r.length
 have hn:=pJ
 have fin:EP X pins σ Q w s:=⟨z,H,I,rw',q⟩
 by_cases h0:0≤i
 ·have hj:i.toNat=j:=by
   rw [seqIndex_of h0 h5] at h1
   exact zaL h1
  exact item_listR pl.isList h0 .e (by rw [hj];simpa using ew) fin hs
 ·have hj:(i+(its.toArray.size:Int)).toNat=j:=by
   rw [seqIndex_neg .e h4] at h1
   rw [zaE,<- hl]
   exact zaL h1
  exact subscriptTail_builtinR (x:=w) pl.isList.typeIs slot_list_getitem.lookup
   (wpAny_getItem_list_neg (Q:=fun r s'=>r=w/\EP X pins σ Q r s') pl.isList .e (by rw [List.size_toArray]<;>omega) .e (by rw [hj];simpa using ew) ⟨rfl,fin⟩) hs
theorem LO:M7 X (Q8 X.K):=by
 intro value slice pins s σ H x y v u Q I rx ry h hs
 obtain⟨p,xs,i,z,rfl,rfl,hq,he,q⟩:=h
 cases rx
 obtain⟨t,rfl⟩:=ry
 obtain⟨its,r,pl,hz⟩:=I.tuple hq
 obtain⟨j,h1,h2,h3,h4,h5⟩:=wA he
 obtain⟨w,ew,rw'⟩:=r.get h2
 have hl:=r.length
 have hn:=pJ
 have fin:EP X pins σ Q w s:=⟨z,H,I,rw',q⟩
 exact subscriptTail_builtinR (x:=w) pl.typeIs slot_tuple_getitem.lookup
  (getItem_tuple (j:=j) (Q:=fun r s'=>r=w/\EP X pins σ Q r s') pl .e .e (by rw [List.size_toArray,<- hl];exact h1) (by simpa using ew) ⟨rfl,fin⟩) hs
theorem LN:M7 X Q7:=by
 intro value slice pins s σ H x y v u Q I rx ry h hs
 obtain⟨z,i,c,rfl,rfl,hz,he,q⟩:=h
 obtain⟨t,rfl⟩:=rx
 obtain⟨t',rfl⟩:=ry
 obtain⟨j,h1,h2,h3,h4,h5⟩:=wA he
 have hl:z.cps.toList.length=z.length:=by simp [Str.length]
 rw [hl] at h1 h4 h5
 have hn:=pJ
 exact tail_any (typeIs_str s z t) slot_str_getitem.lookup (getItem_str (c:=c) (by
  have e1:decide (i < -(2^63:Int))=false:=decide_eq_false .e
  have e2:decide (i≥2^63)=false:=decide_eq_false .e
  rw [e1,e2,Bool.or_false]) (by rw [h1];simpa using h2) ⟨.str ⟨#[c]⟩,H,I.tok _,.aB,q⟩) hs
theorem yq (lo hi:.e8)(n:Nat):(sliceBounds lo hi none n).1=((HT.gw n 0 lo:Nat):Int)/\(sliceBounds lo hi none n).2.1=((HT.gw n n hi:Nat):Int)/\(sliceBounds lo hi none n).2.2=1:=by
 refine⟨?_,?_,rfl⟩
 ·cases lo with
  |none=>simp [sliceBounds,HT.gw]
  |some i =>
   simp only [sliceBounds,HT.gw,Option.getD_none,show (1:Int)>0 by decide,if_true]
   by_cases h:i<0
   ·simp only [h,if_true]<;>omega
   ·simp only [h,if_false]<;>omega
 ·cases hi with
  |none=>simp [sliceBounds,HT.gw]
  |some i =>
   simp only [sliceBounds,HT.gw,Option.getD_none,show (1:Int)>0 by decide,if_true]
   by_cases h:i<0
   ·simp only [h,if_true]<;>omega
   ·simp only [h,if_false]<;>omega
theorem vf (its:.X)(lo hi:.e8):slicePick its.toArray lo hi none=((its.drop (HT.gw its.length 0 lo)).take (HT.gw its.length its.length hi-HT.gw its.length 0 lo)).toArray:=by
 obtain⟨h1,h2,h3⟩:=yq lo hi its.toArray.size
 unfold slicePick
 rw [h1,h2,h3]
 simp only [sliceRange_one,pick_run,List.size_toArray]<;>rfl
def Ra (K:.l):V->Option Int->Option Int->Hp->VK->Prop:=fun x lo hi H Q=>∃a xs,x=.ref a/\gR K H a xs/\∀p,H p=none->Q (.c p) (upd H p (.lst (rR xs lo hi)))
theorem Kd:Ku X (Ra X.K):=by
 intro pins s σ H x v vl vu lo hi sl Q I rx hs pl pu h
 obtain⟨a,xs,rfl,hx,q⟩:=h
 cases rx
 obtain⟨its,r,ht,hz⟩:=I.list hx
 have hlen:=r.length
 refine⟨"list", _,slot_list_getitem.lookup,ht.isList.typeIs,?_⟩
 refine wpAny_getItem_list_slice ht.isList hs pl pu .none .h ?_ (by rw [List.size_toArray]<;>omega)
 rw [vf,<- hlen]
 refine⟨.ref s.heap.objs.size,_,I.laid (t':=s.toks) (o:=.lst (rR xs lo hi)) .dt .bU ?_,rfl,q _ (I.hok.fresh .bU)⟩
 exact⟨zaA (qc xs lo hi) hz,_,0,(r.drop (HT.gw xs.length 0 lo)).take .cx,Heap.get?_push_size _ rfl⟩
theorem wD:gb X (.builtin "len") (fun xs H Q=>∃p ys,xs=[.ref p]/\(gR X.K H p ys\/mM X.K H p ys)/\Q (.int ys.length) H):=by
 intro pins s σ H xs us Q I r h
 obtain⟨p,ys,rfl,hq,q⟩:=h
 obtain⟨u,rfl,rx⟩:=vals1 r
 cases rx
 have hn:=pJ
 rcases hq with hq | hq
 ·obtain⟨its,r',pl,hz⟩:=I.list hq
  have hlen:=r'.length
  exact Calls.call_len_list pl.isList .ca ⟨.int ys.length,H,I.tok _,⟨s.toks+1,by rw [List.size_toArray,hlen]⟩,q⟩
 ·obtain⟨its,r',pl,hz⟩:=I.tuple hq
  have hlen:=r'.length
  exact len_tuple pl .ca ⟨.int ys.length,H,I.tok _,⟨s.toks+1,by rw [List.size_toArray,hlen]⟩,q⟩
theorem wF:gb X (.builtin "len") (fun xs H Q=>∃z,xs=[.str z]/\z.length≤sizeLine/\Q (.int z.length) H):=by
 intro pins s σ H xs us Q I r h
 obtain⟨z,rfl,hz,q⟩:=h
 obtain⟨u,rfl,t,rfl⟩:=vals1 r
 have hn:=pJ
 exact len_str .e ⟨.int z.length,H,I.tok _,.aB,q⟩
theorem gb.or {f:Value}{r r':List V->Hp->VK->Prop}(h:gb X f r)(h':gb X f r'):gb X f (fun xs H Q=>r xs H Q\/r' xs H Q):=by
 intro pins s σ H xs us Q I rs q
 rcases q with q | q
 ·exact h pins s σ H xs us Q I rs q
 ·exact h' pins s σ H xs us Q I rs q
theorem wG:gb X (.type "list") (fun xs H Q=>∃p ys,xs=[.ref p]/\(gR X.K H p ys\/mM X.K H p ys)/\∀l,H l=none->Q (.c l) (upd H l (.lst ys))):=by
 intro pins s σ H xs us Q I r h
 obtain⟨p,ys,rfl,hq,q⟩:=h
 obtain⟨u,rfl,rx⟩:=vals1 r
 cases rx
 have fin:∀(its:.X),Vals ys its->ys.length≤sizeLine->∀(h':Heap) (c':Nat),(∀b o',s.heap.get? b=some o'->h'.get? b=some o') ->
   h'.get? s.heap.objs.size=some { cls:=.type "list", dict:=none,data:=.seq its.toArray c',slots:=#[] }->EP X pins σ Q .b7 { s with heap:=h' }:=fun its r' hz h' c' kp e =>
  ⟨.ref s.heap.objs.size,_,I.laid (t':=s.toks) kp .bU (show du X.prog X.w _ h' _ (.lst ys) from ⟨hz,its,c',r',e⟩),rfl,q _ (I.hok.fresh .bU)⟩
 rcases hq with hq | hq
 ·obtain⟨its,r',pl,hz⟩:=I.list hq
  have hlen:=r'.length
  obtain⟨o,ho,hc,n,hd⟩:=pl.isList
  exact call_list_seq p .cf ho hc hd (fun h' c' kp e=>fin its r' hz h' c' kp e) .ca
 ·obtain⟨its,r',pl,hz⟩:=I.tuple hq
  have hlen:=r'.length
  obtain⟨o,ho,hc,n,hd⟩:=pl
  exact call_list_seq p (.inr rfl) ho hc hd (fun h' c' kp e=>fin its r' hz h' c' kp e) .ca
theorem uv:gb X (.type "tuple") (fun xs H Q=>∃p ys,xs=[.ref p]/\((gR X.K H p ys/\∀l,H l=none->Q (.c l) (upd H l (.tup ys)))\/(mM X.K H p ys/\Q (.c p) H))):=by
 intro pins s σ H xs us Q I r h
 obtain⟨p,ys,rfl,h⟩:=h
 obtain⟨u,rfl,rx⟩:=vals1 r
 cases rx
 rcases h with ⟨hq,q⟩ | ⟨hq,q⟩
 ·obtain⟨its,r',pl,hz⟩:=I.list hq
  have hlen:=r'.length
  refine call_tuple_list pl.isList (fun h' kp=>?_) .ca
  have I1:Inv X pins σ H { s with heap:=h' }:=I.kept (t':=s.toks) kp
  have I2:Inv X pins σ (upd H h'.objs.size (.tup ys)) { s with heap:=h'.push { cls:=.type "tuple", data:=.seq its.toArray } }:=
   I1.laid (t':=s.toks) (fun b o e=>Heap.get?_push_of_some _ e) .bU (show du X.prog X.w _ _ _ (.tup ys) from ⟨hz,its,r',IsTup.new _ _⟩)
  exact⟨.ref h'.objs.size,_,I2,rfl,q _ (I1.hok.fresh .bU)⟩
 ·obtain⟨its,r',pl,hz⟩:=I.tuple hq
  exact call_tuple_same pl ⟨.ref p,H,I,rfl,q⟩
def RA (K:.l)(T:String)(x:V)(H:Hp):Prop:=match x with
 | .str _=>T = "str"
 | .int _=>T = "int"
 | .ref p=>(T = "list"/\∃xs,gR K H p xs)\/(T = "tuple"/\∃o,K.lookup p=some o/\o.cls=.type "tuple"/\o.dict=none) \/
   (T = "dict"/\((∃kvs,H p=some .bD)\/∃kvs,H p=some (.dT kvs)))\/(T = "set"/\∃S n,H p=some (.set S n))
 |_=>False
theorem Ig {pins:.s}{σ:St}{H:Hp}{s:Shared}{T:String}{x:V}{v:Value}(I:.u)(r:RelV x v)(ty:RA X.K T x H):
  s.TypeIs v T/\∀a,v=.ref a->∃ob,s.heap.get? a=some ob/\ob.dict=none:=by
 cases x with
 |str z =>
  obtain⟨t,rfl⟩:=r
  cases (show T = "str" from ty)
  exact⟨typeIs_str s z t,fun _ e=>nomatch e⟩
 |int i =>
  obtain⟨t,rfl⟩:=r
  cases (show T = "int" from ty)
  exact⟨typeIs_int s i t,fun _ e=>nomatch e⟩
 |ref p =>
  cases r
  rcases ty with ⟨rfl,xs,hq⟩ | ⟨rfl,o,hk,hc,hd⟩ | ⟨rfl,hk⟩ | ⟨rfl,S,n,hk⟩
  ·obtain⟨its,_,pl,_⟩:=I.list hq
   refine⟨pl.isList.typeIs,fun a e=>?_⟩
   cases e
   obtain⟨o,n,e,c,hd,_⟩:=pl
   exact⟨o,e,hd⟩
  ·refine⟨⟨o,I.kIn p o hk,hc⟩,fun a e=>?_⟩
   cases e
   exact⟨o,I.kIn _ o hk,hd⟩
  ·have z:∃o,s.heap.get? p=some o/\o.ExactDict:=by
    rcases hk with ⟨kvs,hk⟩ | ⟨kvs,hk⟩
    ·obtain⟨_,_,_,_,o,_,_,e,ex,_⟩:=I.hok p _ hk
     exact⟨o,e,ex⟩
    ·obtain⟨_,_,_,_,o,_,_,e,ex,_⟩:=I.hok p _ hk
     exact⟨o,e,ex⟩
   obtain⟨o,e,ex⟩:=z
   refine⟨⟨o,e,ex.1⟩,fun a e2=>?_⟩
   cases e2
   exact⟨o,e,ex.2.1⟩
  ·obtain⟨o,_,_,_,e,ex,_⟩:=I.hok p _ hk
   refine⟨⟨o,e,ex.1⟩,fun a e2=>?_⟩
   cases e2
   exact⟨o,e,ex.2.1⟩
 |_=>exact False.elim ty
def Rl (K:.l)(T:String)(r:.eT)(to:TE):TE:=fun σ H Q=>to σ H fun x H1=>RA K T x H1/\r x [] H1 Q
def Ss (K:.l)(T:String)(r:.eT)(to:TE)(t:TA):TE:=fun σ H Q=>to σ H fun x H1=>RA K T x H1/\t σ H1 fun xs H2=>r x xs H2 Q
variable {o e:Expr}{es:.az}{to:TE}{t:TA}{name:Str}{apos cpos:Pos}{T id:String}{r:.eT}
theorem Mf (pa:PlainAttrs T)(slot:Slot T name id)(hty:.dS)(hm:NI X id r)(ho:PE X o to)
  (hbase:attributeBase o name X.env (.Q o)=eval o X.env:=by rfl) (hline:.em=true:=by rfl):PE X (.Call (.S name) [] [] cpos) (Rl X.K T r to):=by
 intro pins s σ H Q I h
 refine wpAny_Call_method0_late hbase hline (cR (ho pins s σ H _ I h) fun v s1 ⟨x,H1,I1,r1,ty,q1⟩=>?_)
 obtain⟨h1,h2⟩:=Ig I1 r1 ty
 exact⟨T,id,pa,slot,hty,h1,h2,Calls.callWith_builtin rfl (PySem.evalArgs_none (hm pins s1 σ H1 x [] v [] Q I1 r1 .nil q1))⟩
theorem Hi (pa:PlainAttrs T)(slot:Slot T name id)(hty:.dS)(hm:NI X id r)(ho:PE X o to)(ha:PA X (e::es) t)
  (hbase:attributeBase o name X.env (.Q o)=eval o X.env:=by rfl)
  (hfew:((backTo cpos (starEach (e::es) X.env)).all (fun x=>!x.1)&&(backToKw cpos .cL).all (fun x=>x.1.isSome)
   && decide ((e::es).length+([]:List Keyword).length+(if ([]:List Keyword).isEmpty then 0 else 1)<30))=true:=by rfl)
  (hline:.em=true:=by rfl) (hs:starEach (e::es) X.env=(.i e)::starEach es X.env:=by rfl) (hplain:(backTo cpos .a6).any (·.1)=false:=by rfl):
  PE X (.Call (.S name) (e::es) [] cpos) (Ss X.K T r to t):=by
 intro pins s σ H Q I h
 refine wpAny_Call_method_late hbase hfew hline rfl (cR (ho pins s σ H _ I h) fun v s1 ⟨x,H1,I1,r1,ty,q1⟩=>?_)
 obtain⟨h1,h2⟩:=Ig I1 r1 ty
 refine⟨T,id,pa,slot,hty,h1,h2,?_⟩
 have hA:=ha cpos pins s1 σ H1 _ I1 q1
 rw [hs] at hA ⊢
 refine Calls.callWith_builtin (by show (false||(backTo cpos .a6).any (·.1))=false;rw [hplain]<;>rfl) (Calls.evalArgs_plain ?_)
 exact cR hA fun us s2 ⟨vs,H2,I2,r2,q2⟩=>hm pins s2 σ H2 x vs v us Q I2 r1 r2 q2
/- xs.append(e),list.index on a module's tuple .. are NI facts of 06m -/
end
def RC (X:Cx)(id:String)(r:.eT):Prop:=
 ∀(pins:.s) (s:Shared) (σ:St) (H:Hp) (x:V) (xs:List V) (v:Value) (us:.X) (Q:VK),Inv X pins σ H s->RelV x v->Vals xs us->r x xs H Q ->
  wpAny .q X.A (call .d0 (v::us)) .bQ X.xe s
theorem Vals.one:∀{x:V} {us:.X},Vals [x] us->∃u,us=[u]/\RelV x u
 |_,_,.cons r .nil=>⟨_,rfl,r⟩
theorem Vals.two:∀{x y:V} {us:.X},Vals [x,y] us->∃u v,us=[u,v]/\RelV x u/\RelV y v
 |_,_,_,.cons r (.aq q)=>⟨_,_,rfl,r,q⟩
theorem Vals.zero:∀{us:.X},Vals [] us->us=[]
 |_,.nil=>rfl
theorem Vals.reverse {xs:List V}{us:.X}(h:Vals xs us):Vals xs.reverse us.reverse:=by
 induction h with
 |nil=>exact .nil
 |cons r t ih=>rw [zbx,zbx];exact Vals.append ih (.aq r)
theorem Vals.rep {xs:List V}{us:.X}(h:Vals xs us):∀k:Nat,Vals (List.replicate k xs).flatten (List.replicate k us).flatten
 |0=>.nil
 |k+1=>by
  rw [zaF,zaF,zaN,zaN]
  exact Vals.append h (Vals.rep h k)
theorem foldl_rep (its:.X):∀(k:Nat) (acc:.X),
  List.foldl (fun x1 x2=>x1++x2) acc.toArray (List.replicate k its.toArray)=(acc++(List.replicate k its).flatten).toArray
 |0,acc=>.h
 |k+1,acc=>by
  have e:acc.toArray++its.toArray=(acc++its).toArray:=.h
  have e2:(acc++its)++(List.replicate k its).flatten=acc++(List.replicate (k+1) its).flatten:=by
   rw [zaF,zaN,zaO]
  rw [<- e2,<- foldl_rep its k (acc++its),<- e,zaF,List.foldl_cons]
section
variable {X:Cx}{pins:.s}{σ:St}{H:Hp}{s:Shared}{l b:Addr}{xs ys zs:List V}
theorem Inv.lset {its its':.X}{n:Nat}{f:Array Value->Array Value}{t':Nat}(I:.u)(hH:H l=some .c6)
  (e:s.heap.get? l=some { cls:=.type "list", data:=.seq its.toArray n }) (hf:f its.toArray=its'.toArray) (hv:Vals ys its') (hz:ys.length≤sizeLine):
  Inv X pins σ (upd H l (.lst ys)) { s with heap:=s.heap.update l (Obj.mapSeq f),toks:=t' }:=by
 have q:=PySem.IsL.update e f
 rw [hf] at q
 refine I.write (x:=l) (e:=l) (by rw [hH];exact trivial) .cf (fun b' u hb hu=>(Heap.get?_update_other s.heap (Obj.mapSeq f) (Ne.symm hb)).trans hu) ⟨_,q⟩ ?_
 exact⟨hz,its',_,hv,q⟩
theorem Inv.lnew {its:.X}{t':Nat}(I:.u)(hv:Vals ys its)(hz:ys.length≤sizeLine):
  Inv X pins σ (.z (.lst ys)) { s with heap:=s.heap.push { cls:=.type "list", data:=.seq its.toArray },toks:=t' }:=
 I.laid (fun _ _ q=>Heap.get?_push_of_some _ q) .bU ⟨hz,its,0,hv,Heap.get?_push_size _ rfl⟩
theorem Inv.fresh (I:.u):H s.heap.objs.size=none:=I.hok.fresh .bU
theorem Inv.lstM (I:.u)(hH:H l=some .c6):xs.length≤sizeLine/\∃(its:.X) (n:Nat),Vals xs its/\xs.length=its.length/\s.heap.get? l=some { cls:=.type "list", data:=.seq its.toArray n }:=by
 obtain⟨z,its,n,r,e⟩:=I.hok l _ hH
 exact⟨z,its,n,r,r.length,e⟩
theorem G0 {n:Nat}(h:n≤sizeLine):Builtin.List.listTooLong n=false:=by
 unfold Builtin.List.listTooLong
 exact decide_eq_false .e
end
section
variable {X:Cx}
def J0:V->List V->Hp->VK->Prop:=fun x vs H Q=>∃l xs y,x=.ref l/\vs=[y]/\H l=some .c6/\xs.length<sizeLine/\Q .non (upd H l (.lst (xs++[y])))
theorem vW:RC X "list.append" J0:=by
 intro pins s σ H x vs v us Q I rx rv h
 obtain⟨l,xs,y,rfl,rfl,hH,hz,q⟩:=h
 cases rx
 obtain⟨u,rfl,ru⟩:=rv.one
 obtain⟨z,its,n,r,hl,e⟩:=I.lstM hH
 refine call_meets F.slot_list_append ⟨_,e,rfl⟩ F.entry_list_append (F.args_list_append_2 _ _) (PySem.list_append l its.toArray n u (by rw [zaE];omega)) ⟨e,?_⟩
 refine⟨.non,_,I.lset (its':=its++[u]) hH e .h (r.append (.aq ru)) ?_,rfl,q⟩
 rw [zai,zau]
 omega
def Q5:R2:=fun x y H Q=>∃l b xs zs,x=.ref l/\y=.ref b/\H l=some .c6/\H b=some (.lst zs)/\xs.length+zs.length≤sizeLine/\∀p,H p=none->Q (.c p) (upd H p (.lst (xs++zs)))
theorem L5:pz X (binaryOp .Add) Q5:=by
 intro pins s σ H x y v u Q I rx ry h
 obtain⟨l,b,xs,zs,rfl,rfl,hH,hB,hz,q⟩:=h
 cases rx
 cases ry
 obtain⟨z,its,n,r,hl,e⟩:=I.lstM hH
 obtain⟨z2,its2,n2,r2,RJ,e2⟩:=I.lstM hB
 refine PySem.P.add_list e e2 ?_ (by rw [zaE,zaE];omega)
 have ea:its.toArray++its2.toArray=(its++its2).toArray:=.h
 rw [ea]
 exact⟨.ref _,_,I.lnew (t':=s.toks) (r.append r2) (by rw [zai];omega),rfl,q _ I.fresh⟩
def Q9:R2:=fun x y H Q=>∃l k xs,x=.ref l/\y=.int k/\H l=some .c6 /\ -(2^63)≤k/\k<2^63/\xs.length*k.toNat≤sizeLine /\
 ∀p,H p=none->Q (.c p) (upd H p (.al xs))
theorem len_rep {α:Type}(xs:List α)(k:Nat):(List.replicate k xs).flatten.length=k*xs.length:=by
 induction k with
 |zero=>simp
 |succ k ih=>rw [zaF,zaN,zai,ih,Nat.succ_mul,Nat.add_comm]
theorem L9:pz X (binaryOp .Mult) Q9:=by
 intro pins s σ H x y v u Q I rx ry h
 obtain⟨l,k,xs,rfl,rfl,hH,h1,h2,hz,q⟩:=h
 cases rx
 obtain⟨t,rfl⟩:=ry
 obtain⟨z,its,n,r,hl,e⟩:=I.lstM hH
 have hlen:its.toArray.size*k.toNat≤sizeLine:=by rw [zaE,<- hl];exact hz
 have hcap:¬ its.toArray.size*k.toNat>(2^63-1)/8:=by
  have:(sizeLine:Nat)≤(2^63-1)/8:=.f
  omega
 have hfit:¬ (!Builtin.List.listFitsIndex k)=true:=by
  rw [fitsIndex_both h1 h2]
  exact zaK
 have hlong:¬ Builtin.List.listTooLong (its.toArray.size*k.toNat)=true:=by
  rw [G0 hlen]
  exact zaK
 have hnew:List.foldl (fun x1 x2=>x1++x2) #[] (List.replicate (if its.toArray.isEmpty=true then 0 else k.toNat) its.toArray)=(List.replicate k.toNat its).flatten.toArray:=by
  have f0:∀m:Nat,List.foldl (fun x1 x2=>x1++x2) #[] (List.replicate m its.toArray)=(List.replicate m its).flatten.toArray:=fun m=>by
   have:=foldl_rep its m []
   rw [zbf] at this
   exact this
  rw [f0]
  cases its with
  |nil=>simp
  |cons a r'=>rw [if_neg .h]
 refine wpAny_binaryOp_repeat_ref (T := "list") (U := "int") .f ⟨_,e,rfl⟩ (fun s'=>typeIs_int s' k t) noFill_list_mul F.fills_int_mul F.slot_int_rmul repeat_list F.slot_int_index.lookup
  (call_meets F.slot_int_rmul (typeIs_int s k t) F.entry_int_rmul (F.args_int_rmul_2 _ _) (int___rmul___int_list k t l its.toArray n)
   ⟨e,rfl,⟨_,e,rfl⟩,call_meets F.slot_list_mul ⟨_,e,rfl⟩ F.entry_list_mul (F.args_list_mul_2 _ _) (AutoListH.list___mul___list_int_3 l its.toArray n k t hfit hcap hlong) ⟨e,?_⟩⟩)
 rw [hnew]
 exact⟨.ref _,_,I.lnew (t':=s.toks) (r.rep k.toNat) (by rw [len_rep,Nat.mul_comm];exact hz),rfl,q _ I.fresh⟩
end
section
variable {prog:.am}{w:World}{A:Around}{E:.m}{s:Shared}
end
section
variable {X:Cx}
end
end L2
namespace Att
open PySem PySem.W PySem.Calls PyProof.Rows
theorem qx {P:Params}{h:Heap}:∀(ns:.dz) (vs:.X),WellAll P h vs (ns.map WData.int)->IntsAre vs ns:=by
 intro ns
 induction ns with
 |nil =>
  intro vs w
  rw [zb0] at w
  cases w
  exact .nil
 |cons n ns ih =>
  intro vs w
  rw [zaf] at w
  cases w with
  |cons a b =>
   cases a
   exact .cons _ _ (ih _ b)
theorem EG {l:OpenLaw}{n:Nat}(hn:l.most=some n){P:Params}{h:Heap}{args:List WData}{vals:.X}
  (hpre:l.row.toRowW.claim.pre args=true) (hwl:WellAll P h vals args):
  ∃a vs ns,vals=[Value.ref a]/\args=[WData.list (ns.map WData.int)]/\h.get? a=some { cls:=.type "list", data:=.seq vs.toArray }/\IntsAre vs ns/\ns.length≤n:=by
 have hsh:WShape.hasAll [] args [.list .int]=true:=(pre_splitW hpre).1
 have hc:l.pre.holds [] { args:=args }=true:=(pre_splitW hpre).2
 obtain⟨d,r,rfl,h1,h2⟩:=hasAllW_cons hsh
 obtain rfl:=hasAllW_nil h2
 obtain⟨xs,rfl,h3⟩:=hasW_list h1
 obtain⟨ns,rfl⟩:=items_int h3
 have hlen:ns.length≤n:=by
  unfold OpenLaw.pre at hc
  have h4:(WTm.not (.lt (.lit (.int (n:Int))) (.len (.arg 0)))).holds [] { args:=[.list (ns.map .int)] }=true:=by
   have h4:=(holds_andW hc).1
   rw [hn] at h4
   exact h4
  have h5:=condW_of h4 (w_not (w_lt w_lit (w_len_list (w_arg rfl))))
  rw [zah] at h5
  refine Nat.le_of_not_lt fun q=>?_
  have q':(n:Int)<((ns.length:Nat):Int):=.e
  first
   |(rw [decide_eq_true q'] at h5;exact absurd h5 .f)
   |(simp at h5;omega)
 cases hwl with
 |cons w1 w2 =>
  cases w2
  cases w1 with
  |list ho hall=>exact⟨_,_,ns,rfl,rfl,ho,qx ns _ hall,hlen⟩
theorem EE (l:OpenLaw)(args:List WData):l.row.toRowW.claim.post args .aw args=true:=
 postW_of (r:=l.row.toRowW) (X:=(true == true))
  (show WShape.has [] .aw .bool=true by first | rfl | decide | simp [WShape.has,WShape.arms,WShape.armsAll])
  (show (WTm.eq .res (.lit .aw)).value [] { args:=args,res:=some .aw,after:=args }=some (.bool (true == true)) from w_eq_bool (w_res rfl) w_lit) rfl
theorem yP {l:OpenLaw}{n:Nat}{q:.am}{loose:.Y}{XP:(Str->Option Value)->Heap->Prop}{YP:World->Heap->Prop}{d:DefRec}
  (hn:l.most=some n) (hdf:d.params.defaults=[])
  (call:∀(w:World) (Y8 s₁:Shared) (mg mb:.G) (fa:Addr) (o:Obj) (pm cd doc:Value) (a:Addr) (vs:.X) (ns:.dz),
   Ground q loose [] XP w Y8 mg mb s₁.heap->YP w s₁.heap ->
   s₁.heap.get? fa=some o->o.data=.func (docDef d.name d.params d.body d.scope pm cd doc)->s₁.heap.CodeRec cd d.name->mg d.name=some (.c fa) ->
   s₁.heap.get? a=some { cls:=.type "list", data:=.seq vs.toArray }->IntsAre vs ns->ns.length≤n->s₁.gens = #[] ->
   codeAny (model l.prog w) callerA (.call (.c fa) ⟨[.ref a],[]⟩) .b0 s₁):
  WalkO q loose XP YP l.row.toRowW d [] (fun f vs=>PySem.call f vs):=by
 intro w Y8 s₁ mg mb G Y fa o pm cd doc dV kV ho hd hcd hD hmg hg args vals as hpre hlay hrd hwl hlo
 obtain rfl:dV=.none:=Dflts.none hD hdf
 obtain rfl:kV=.none:=Dflts.noKw hD
 obtain⟨a,vs,ns,rfl,rfl,hobj,hints,hlen⟩:=EG hn hpre hwl
 refine enter_call (codeAny_mono (call w Y8 s₁ mg mb fa o pm cd doc a vs ns G Y ho (fd_plain hd) hcd hmg hobj hints hlen hg) fun r s' hq=>?_)
 obtain⟨rfl,h2,h3,h4⟩:=hq
 exact⟨.inl ⟨.bool true,.bool true,[],rfl,fun _=>rfl,.bool true,EE l _,fun _=>⟨List.Pairwise.nil,fun _ hm=>(nomatch hm)⟩⟩,h2,h3,h4⟩
section
variable {prog:.am}{w:World}{A:Around}{E:.m}{s:Shared}{K:Frag}
end
end Att
namespace L2
open PySem PySem.Spec PyProof.Rows
theorem wq:∀{vs:.X} {ns:.dz},IntsAre vs ns->Vals (ns.map V.int) vs
 |_,_,.nil=>.nil
 |_,_,.cons n t h=>.cons ⟨t,rfl⟩ (wq h)
def Lc (H:Hp):Prop:=∀b,H b=none\/∃o xs,H b=some (.frz o .c6)
theorem GL {P:.am}{w:World}{K:.l}{mg mb:.G}{CX:DL}{k:Nat}{fa a:Addr}{fd:.e5}{x:Str}{sp:Sp}{s₁:Shared}{vs:.X}{ns:.dz}
  (KX:K.In s₁.heap) (hns:s₁.heap.Ns mainGlobals mg) (hb:s₁.heap.Ns builtinsNs mb) (hbb:∀x:Str,x≠"__name__"->mb x=bootBuiltins x) (hlim:s₁.heap.NoLimit) (hg:s₁.gens = #[])
  (ha:s₁.heap.get? a=some { cls:=.type "list", data:=.seq vs.toArray }) (hi:IntsAre vs ns) (hl:ns.length≤sizeLine) (hr:eN k callerA)
  (F:∀base:Heap,K.In base->base.Ns mainGlobals mg->iz P w K mg base CX k fa fd [x] sp) (hbind:∀(s:Shared) (u:Value),BindsTo s fd ⟨[u],[]⟩ [(x,u)])
  (hsp:∀H:Hp,Lc H->gR K H a (ns.map V.int)->sp [.ref a] H (fun v _=>v=.bl true) fun _ _ _=>False)
  (hCX:∀H e s',CX [] H s₁ (fun _ _ _=>False) e s'->False):
  codeAny (model P w) callerA (.call (.c fa) ⟨[.ref a],[]⟩) .b0 s₁:=by
 have rv:=wq hi
 have lenV:=hi.length
 -- from an abstract heap in which nothing but the script may be tracked
 have core:∀H:Hp,Lc H->gR K H a (ns.map V.int)->ly P w H s₁.heap->(∀b,H b≠none->b=a)->(H a≠none->K.lookup a=none) ->
   codeAny (model P w) callerA (.call (.c fa) ⟨[.ref a],[]⟩) .b0 s₁:=by
  intro H hO hS hok hA hK
  have base_of:∀{b:Addr} {o:Obj},s₁.heap.get? b=some o->H b=none->(xb s₁.heap H).get? b=some o:=fun e n=>Gx e n
  have noA:∀{b:Addr} {o:Obj} {es:Array DictEntry} {ep:Nat},s₁.heap.get? b=some o->o.data=.dict es ep->H b=none:=fun {b o es ep} e d=>by
   cases q:H b with
   |none=>rfl
   |some u =>
    have e':b=a:=hA b (by rw [q];simp)
    subst e'
    rw [ha] at e;cases e
    have d':Data.seq vs.toArray _=Data.dict es ep:=d
    cases d'
  have nsK:∀{b:Addr} {m:.G},s₁.heap.Ns b m->(xb s₁.heap H).Ns b m:=fun {b m} ⟨o,es,ep,e,d,r⟩=>⟨o,es,ep,base_of e (noA e d),d,r⟩
  have hKb:K.In (xb s₁.heap H):=fun b o e=>base_of (KX b o e) (by
   cases q:H b with
   |none=>rfl
   |some u =>
    have e':b=a:=hA b (by rw [q];simp)
    subst e'
    rw [hK (by rw [q];simp)] at e;cases e)
  have hM:Mod K mg (xb s₁.heap H):=⟨hKb,nsK hns,⟨mb,nsK hb,hbb⟩,let ⟨mc,h1,h2⟩:=hlim;⟨mc,nsK h1,h2⟩⟩
  have e0:AR P w K mg (xb s₁.heap H) callerA [] s₁ H:=⟨rfl,hM,fun b o e=>JB e,Nat.le_of_eq (Ej _ _),trivial,fun b hb=>absurd (show b∈([]:List Addr) from hb) .h,hok,.of_eq hg⟩
  refine codeAny_mono ((F _ hKb (nsK hns)).run callerA [] s₁ H ⟨[.ref a],[]⟩ [.ref a] [.ref a] _ _ hr e0 (hbind s₁ (.c a)) (.aq rfl) (hsp H hO hS)) fun r s' h=>?_
  cases r with
  |error e=>exact (hCX H e s' h).elim
  |ok fl =>
   cases fl with
   |next=>exact False.elim h
   |brk=>exact False.elim h
   |cont=>exact False.elim h
   |ret u =>
    obtain⟨v,H',os,bare,un,hok',r',q⟩:=h
    have q':v=.bl true:=q
    subst q'
    obtain rfl:u=Value.bool true:=r'
    refine⟨rfl,OldK.of_keep fun b o e=>?_,os,bare⟩
    cases q:H b with
    |none=>exact un.keep b o e q (by intro z;exact absurd (show b∈([]:List Addr) from z) .h) .h
    |some u =>
     rcases hO b with z | ⟨ob,xs,z⟩
     ·rw [q] at z;cases z
     ·have z2:=un.frzs b ob _ z
      obtain⟨e1,_⟩:=hok b _ z
      obtain⟨e2,_⟩:=hok' b _ z2
      rw [e] at e1;cases e1
      exact e2
 cases hk:K.lookup a with
 |some o =>
  -- the script is one of the module's own objects
  have e:=KX a o hk
  rw [ha] at e
  cases e
  refine core (fun _=>none) (fun _=>.inl rfl) (.inr ⟨_,vs.toArray,_,hk,rfl,rfl,rfl,by rw [List.size_toArray,lenV];exact hl,by simpa using rv⟩) (fun b u z=>by have z':(none:Option HO)=some u:=z;cases z') (fun b z=>absurd rfl z) fun z=>absurd rfl z
 |none =>
  refine core (fun b=>if b=a then some (.frz { cls:=.type "list", data:=.seq vs.toArray } (.lst (ns.map V.int))) else none) (fun b=>?_) (.inl (.inr ⟨{ cls:=.type "list", data:=.seq vs.toArray },if_pos rfl⟩)) (fun b u z=>?_) (fun b z=>?_) fun _=>hk
  ·by_cases hb:b=a
   ·exact .inr ⟨_,_,if_pos hb⟩
   ·exact .inl (if_neg hb)
  ·by_cases hb:b=a
   ·have z':=(if_pos hb).symm.trans z
    cases z'
    subst hb
    exact⟨ha,by rw [zah];exact hl,vs,_,rv,ha⟩
   ·have z':=(if_neg hb).symm.trans z
    cases z'
  ·by_cases hb:b=a
   ·exact hb
   ·exact absurd (if_neg hb) z
theorem DH {l:PySem.W.OpenLaw}{n k:Nat}{q:.am}{loose:.Y}{XP:(Str->Option Value)->Heap->Prop}{YP:World->Heap->Prop}{d:DefRec}{K:Params->PySem.W.Frag}{CX:World->DL}{sp:World->Sp}{x:Str}
  (hn:l.most=some n) (hn2:n≤sizeLine) (hdf:d.params.defaults=[]) (hr:eN k callerA)
  (hY:∀(w:World) (h:Heap),YP w h->(K w.params).In h)
  (F:∀(w:World) (mg:.G) (fa:Addr) (h:Heap),(K w.params).In h->h.Ns mainGlobals mg->mg d.name=some (.c fa) ->
   ∃fd:FuncData,(∀(s:Shared) (u:Value),BindsTo s fd ⟨[u],[]⟩ [(x,u)]) /\
    ∀base:Heap,(K w.params).In base->base.Ns mainGlobals mg->iz l.prog w (K w.params) mg base (CX w) k fa fd [x] (sp w))
  (hsp:∀(w:World) (H:Hp) (a:Addr) (ns:.dz),ns.length≤n->Lc H->gR (K w.params) H a (ns.map V.int)->sp w [.ref a] H (fun v _=>v=.bl true) fun _ _ _=>False)
  (hCX:∀(w:World) (H:Hp) (s:Shared) (e:Value) (s':Shared),CX w [] H s (fun _ _ _=>False) e s'->False):
  PySem.W.WalkO q loose XP YP l.row.toRowW d [] (fun f vs=>PySem.call f vs):=by
 refine Att.yP hn hdf fun w Y8 s₁ mg mb fa o pm cd doc a vs ns G Y ho hd hcd hmg hobj hints hlen hg=>?_
 have KX:=hY w _ Y
 obtain⟨fd,hb,hF⟩:=F w mg fa _ KX G.T.g hmg
 exact GL KX G.T.g G.T.b G.T.builtins G.T.nolimit hg hobj hints (zaA hlen hn2) hr hF hb (fun H hO hS=>hsp w H a ns hlen hO hS) fun H e s'=>hCX w H s₁ e s'
end L2
/- THE LAST THEOREM (shape;LID,My.* are yours):
   My.Adr: a structure of the addresses that your layer names (classes,functions);My.Txt K t: a structure (Prop) of the equations over K;
   My.txt_mk:{K} {implicit addresses ..} (e1:nsIn K mainGlobals "law" = some (.J f)) (e2:K.lookup f=some ⟨oc,od,.func (fnOf "law" "law" params body scope dV kV doc pm an cdv ct),sl⟩) (e3:codeIn K cdv "law" = true) .. : ∃t,My.Txt K t
set_option maxRecDepth 100000 in
set_option maxHeartbeats 0 in
theorem PySem.Challenge.cw_LID_holds : PySem.Challenge.rw_LID.Holds := by
 w_on;o_law;k_head;(case hw=>w_witness2)
 k_fill
 refine L2.DH (l:=PySem.Challenge.rw_LID) (n:=63) (k:=40) (x := "script") (CX:=fun w=>..) (sp:=fun _=>My.sp_law) rfl .f rfl ⟨rfl,.f,.f⟩ (fun w h Y=>PySem.W.kIn_of Y) ?F ?S ?C
 case F =>
  intro w mg fa h KX G hmg
  have T:∃t,My.Txt (L2.KOf KX) t:=by
   dsimp only [L2.KOf] -- K must stand as «<heap const> w.params» for k_is
   refine' My.txt_mk ?e1 ?e2 ?e3 ..
   (case e1=>PySem.W.k_is) -- in the order: a name->its address->its object->its parts
   (case e2=>PySem.W.k_is)
   ..
  obtain⟨t,T⟩:=T
  have e0:=hmg.symm.trans (PySem.W.mg_of KX G T.law)
  cases e0 -- fa is the law's own address
  exact⟨_,fun s u=>.of_eq rfl,fun base kb nb=>My.law_fn T kb nb⟩ -- if «.of_eq rfl» comes too early: refine' ⟨_,?b,fun base kb nb=>My.law_fn T kb nb⟩;exact fun s u=>.of_eq rfl
 case S=>exact fun w H a ns hl hO hS=>..
 case C=>exact ..
(the tactic k_is has no namespace: write k_is) -/
namespace L2
open PySem PySem.Spec PyProof.Rows
def inClass (s:Stmt)(j:Nat):Stmt:=match s with
 | .ClassDef _ _ _ body _ _ _ _ _ _ _=>body.getD j (.Pass ⟨0,0,0,0⟩)
 |_=>.Pass ⟨0,0,0,0⟩
def kh (s:Stmt):Arguments:=match s with
 | .FunctionDef _ a _ _ _ _ _ _ _ _=>a
 |_=>{ posonlyargs:=[],args:=[],vararg:=none,kwonlyargs:=[],kw_defaults:=[],kwarg:=none,defaults:=[] }
def ff (s:Stmt):List Stmt:=match s with
 | .FunctionDef _ _ b _ _ _ _ _ _ _=>b
 |_=>[]
def ax (s:Stmt):Scope:=match s with
 | .FunctionDef _ _ _ _ _ _ sc _ _ _=>sc
 |_=>{ kind:=.function,names:=[],isGenerator:=false,isCoroutine:=false }
abbrev ur:DL:=fun _ _ _ _ _ _=>False
abbrev E0:XK:=fun _ _ _=>False
theorem Ad {X:Cx}:Passes ur X E0:=fun _ _ _ _ _ _ _ h=>h.elim
structure eK (K:.l)(x qual:Str)(st:Stmt)(f:Addr)(fd:.e5):Prop where
 ex:∃(oc:Value) (od:.cS) (kV doc pm:Value) (an:.cS) (cdv ct:Value) (osl:Array (Option Value)),
  fd=PySem.W.fnOf x qual (kh st) (ff st) (ax st) .none kV doc pm an cdv ct/\K.lookup f=some ⟨oc,od,.func fd,osl⟩/\PySem.W.codeIn K cdv qual=true
 kp:PySem.W.keepIn K (.c f)=true
section
variable {P:.am}{w:World}{K:.l}{mg:.G}{base:Heap}
theorem eK.ok {x qual:Str}{st:Stmt}{f:Addr}{fd:.e5}{N ps:.Y}{k:Nat}{sp:Sp}(F:.du)(S:aK N ps (ax st))(len:∀vs H Q E,sp vs H Q E->vs.length=ps.length)
  (hbody:∀(cdv:Value) (A:Around) (outer:.e4) (s:Shared) (H:Hp) (vs:List V) (Q:VK) (E:XK),eN k .aK->sp vs H Q E ->
   ∃t,mK (rS ur P w K mg base N qual (ax st) f cdv A outer s H E).nox (ff st) t/\t { nx:=fun _ H'=>Q .non H',rt:=Q } (start N vs) H):iz P w K mg base ur (k+1) f fd ps sp:=by
 obtain⟨oc,od,kV,doc,pm,an,cdv,ct,osl,rfl,lk,hcd⟩:=F.ex
 refine N9 lk hcd S len fun A outer s H vs Q E hr hsp=>?_
 obtain⟨t,h,q⟩:=hbody cdv A outer s H vs Q E hr hsp
 exact⟨t,h.nox,q⟩
theorem eK.binds {x qual:Str}{st:Stmt}{f:Addr}{fd:.e5}{ps:.Y}(F:.du)
  (h:∀(kV doc pm:Value) (an:.cS) (cdv ct:Value) (us:.X),us.length=ps.length->bindArgs .cH ⟨us,[]⟩=pure (ps.zip us)):Binds K fd ps []:=by
 obtain⟨oc,od,kV,doc,pm,an,cdv,ct,osl,rfl,lk,hcd⟩:=F.ex
 exact .all (h kV doc pm an cdv ct)
theorem LC {x qual:Str}{st:Stmt}{f:Addr}{oc:Value}{od an:.cS}{osl:Array (Option Value)}{kV doc pm cdv ct:Value}(l:K.lookup f=some ⟨oc,od,.func .cH,osl⟩)
  (c:PySem.W.codeIn K cdv qual=true) (k:PySem.W.keepIn K (.c f)=true):eK K x qual st f .cH:=⟨⟨oc,od,kV,doc,pm,an,cdv,ct,osl,rfl,l,c⟩,k⟩
end
theorem bT {n:Nat}(h:n≤1000):n<sizeLine:=zay h .f
section
variable {X:Cx}
theorem pv (i:Nat){x:Str}{pos:Pos}(hN:X.N[i]? = some x:=by rfl)(hv:Na X.env.scope x:=by first | exact Or.inl rfl | exact Or.inr .p | exact Or.inr (Or.inr rfl))(hd:.L=false:=by decide)
  (hcd:(x == ("__classdict__" : Str))=false:=by decide):PE X .cC (yu i):=Mp hN hv hd hcd
end
def aV (H H':Hp):Prop:=∀b o,H b=some o->H' b=some o
theorem aV.refl (H:Hp):aV H H:=fun _ _ h=>h
theorem aV.trans {H H1 H2:Hp}(a:aV H H1)(b:aV H1 H2):aV H H2:=fun c o h=>b c o (a c o h)
theorem aV.free {H H':Hp}(e:aV H H'){l:Addr}(h:H' l=Option.none):H l=Option.none:=by
 cases q:H l with
 |none=>rfl
 |some o =>
  rw [e l o q] at h
  cases h
theorem aV.seq {K:.l}{H H':Hp}{a:Addr}{xs:List V}(e:aV H H')(h:gR K H a xs):gR K H' a xs:=by
 rcases h with (h | ⟨o,h⟩) | h
 ·exact .inl (.inl (e _ _ h))
 ·exact .inl (.inr ⟨o,e _ _ h⟩)
 ·exact .inr h
theorem Eu (o:Obj)(f:Array Value->Array Value):(o.mapFields f).dict=o.dict:=by
 obtain⟨c,d,t,l⟩:=o
 cases t<;>rfl
def KD (g g':Heap)(e:Addr):Prop:=∀o,g.get? e=some o->∃o',g'.get? e=some o'/\o'.dict=o.dict
theorem KD.trans (x:KD g1 g2 e)(y:KD g2 g3 e):KD g1 g3 e:=fun o q=>by
 obtain⟨o1,q1,d1⟩:=x o q
 obtain⟨o2,q2,d2⟩:=y o1 q1
 exact⟨o2,q2,d2.trans d1⟩
section
variable {M:Model}{A:Around}{E:.m}{s:Shared}{bs:Heap}{env:Env}{out:.e4}{L e:Addr}{a0 fl:Value}{oe:Obj}{vs:.cK}{Q:.dR}
theorem Lu {nx:Bool}(hfr:A.frames=some (env::out))(hl:s.heap.FunFrames bs (env::out))(hf:env.frame=some L)(he:s.heap.get? e=some oe)(hk:bs.StaysIn s.heap)(hn:bs.get? e=none)
  (hd:oe.data=.fields vs) (hz:1<vs.size) (h0:vs[0]? = some a0)
  (hq:∀g',Heap.NotedW bs (env::out) e oe.cls a0 (rawInt L) s.heap g'->KD s.heap g' e->Q () { s with heap:=g' }):
  wpAny M A (do let a <- frameOf env;let pl <- entryPlaceOf L nx;let b <- EntryCells.newEntry hd0 a .none (rawInt L) .none pl;setField (.c e) 1 b) Q E s:=by
 have hin:e∉(env::out).filterMap (·.frame):=fun m=>by
  obtain⟨_,o,q,nf⟩:=hl.mem m
  rw [he] at q
  cases q
  exact nf vs hd
 refine wpAny_bind (wpAny_frameOf_fun hfr hl hf fun g1 t1=>wpAny_bind (wpAny_entryPlaceOf fun pl hpl=>?_))
 unfold EntryCells.newEntry newFields
 refine wpAny_bind (wpAny_newObj_type ?_ (hpl.sizeOk5 _ _ _ _ _))
 have e1:g1.get? e=some oe:=(t1.2.1 e hin).trans he
 have k1:bs.StaysIn g1:=fun b o q=>(t1.2.1 b fun m=>by rw [(hl.mem m).1] at q;cases q).trans (hk b o q)
 obtain⟨ob,hob⟩:∃ob:Obj,ob={ cls:=.type "traceback", dict:=none,data:=.fields ([hd0,.ref L,.none,rawInt L,.none]++(if pl.isEmpty then List.replicate 6 Value.none else pl)).toArray }:=⟨_,rfl⟩
 have hobd:ob.data=.fields ([hd0,.ref L,.none,rawInt L,.none]++(if pl.isEmpty then List.replicate 6 Value.none else pl)).toArray:=by rw [hob]
 rw [<- hob]
 have e2:=Heap.get?_push_of_some (h:=g1) ob e1
 have nT:g1.objs.size≠e:=zaU (Heap.lt_size e1)
 obtain⟨fn,hfn⟩:∃fn:Array Value->Array Value,fn=(·.setIfInBounds 1 (Value.ref g1.objs.size)):=⟨_,rfl⟩
 have d3:=Obj.data_mapFields hd fn
 have e3:=Heap.get?_update_self (Obj.mapFields fn) e2 (Obj.isFreed_of_fields d3)
 have T3:=(Heap.get?_update_other (g1.push ob) (Obj.mapFields fn) (Ne.symm nT)).trans (Heap.get?_push_size g1 (by rw [hob];rfl))
 have kp:∀b o,b≠e->g1.get? b=some o->((g1.push ob).update e (Obj.mapFields fn)).get? b=some o:=fun b o nb q=>by
  rw [Heap.get?_update_other _ _ (Ne.symm nb)]
  exact Heap.get?_push_of_some _ q
 have nr:∀b o,s.heap.get? b=some o->(∀ws,o.data≠.fields ws)->b≠e:=fun b o q nf z=>by
  rw [z,he] at q
  cases q
  exact nf vs hd
 have dd:KD s.heap ((g1.push ob).update e (Obj.mapFields fn)) e:=fun o q=>by
  rw [he] at q
  cases q
  exact⟨_,e3,Eu _ _⟩
 refine wpAny_setField e2 hd hz (hfn ▸ hq _ ⟨fun b o q=>kp b o (fun z=>by rw [z,hn] at q;cases q) (k1 b o q),hl.of_keeps fun b o q nf=>?_,?_,fun b o q nf=>?_⟩ dd)
 ·obtain⟨sl,z⟩:=t1.2.2 b o q
  exact⟨_,kp b _ (nr b o q nf) z,rfl⟩
 ·refine⟨_,_,g1.objs.size,_,_,e3,⟨Obj.cls_mapFields _ _,?_⟩,d3,?_,k1.fresh,nT,T3,hobd,?_⟩
  ·rw [hfn,Array.getElem?_setIfInBounds_ne .f];exact h0
  ·rw [hfn];simp [hz]
  ·first | (simp;done) | (rcases hpl with rfl | ⟨_,_,_,_,_,_,_,rfl⟩<;>simp)
 ·obtain⟨sl,z⟩:=t1.2.2 b o q
  exact⟨sl,kp b _ (nr b o q nf) z⟩
theorem L1 (hfr:A.frames=some (env::out))(hl:s.heap.FunFrames bs (env::out))(hf:env.frame=some L)(ht:s.heap.TracedW bs e cls a0)(hk:bs.StaysIn s.heap)(hn:bs.get? e=none)
  (hq:∀g',Heap.NotedW bs (env::out) e cls a0 (rawInt L) s.heap g'->KD s.heap g' e->Q () { s with heap:=g' }):wpAny M A (noteFrame (.c e) env) Q E s:=by
 obtain⟨ox,ws,T,oT,ts,x1,⟨rfl,x2⟩,x3,x4,x5,x6,x7,x8,x9⟩:=ht
 unfold noteFrame
 simp only [hf]
 refine wpAny_bind (wpAny_field x1 x3 x4 ?_)
 rw [if_pos (show (Value.ref T != Value.none)=true from by simp)]
 refine wpAny_bind (wpAny_field x7 x8 x9 ?_)
 rw [if_neg (show ¬ ((Value.none == rawInt L)=true) from by simp [rawInt])]
 refine wpAny_bind (wpAny_setField x7 x8 (za7.mp x9).1 ?_)
 have ot:∀b,b≠T->(s.heap.update T (Obj.mapFields (·.setIfInBounds 3 Value.none))).get? b=s.heap.get? b:=fun b nb=>Heap.get?_update_other _ _ (Ne.symm nb)
 have nr:∀b o,s.heap.get? b=some o->(∀us,o.data≠.fields us)->b≠T:=fun b o q nf z=>by
  rw [z,x7] at q
  cases q
  exact nf ts x8
 refine Lu hfr (hl.of_keeps fun b o q nf=>⟨o,(ot b (nr b o q nf)).trans q,rfl⟩) hf ((ot e (Ne.symm x6)).trans x1) (fun b o q=>(ot b fun z=>by rw [z,x5] at q;cases q).trans (hk b o q)) hn x3 (za7.mp x4).1 x2 fun g' y k=>?_
 obtain⟨y1,y2,y3,y4⟩:=y
 refine hq g' ⟨y1,y2,y3,fun b o q nf=>y4 b o ((ot b (nr b o q nf)).trans q) nf⟩ fun o q=>k o ((ot e (Ne.symm x6)).trans q)
theorem CG (hk:bs.StaysIn s.heap)(hl:s.heap.FunFrames bs l)(ht:s.heap.TracedAtW bs e cls a0 fl)(hn:bs.get? e=none)
  (hq:∀g',Heap.FlyingW bs l e cls a0 g'->s.heap.UpToSlots g'->KD s.heap g' e->Q () { s with heap:=g' }):wpAny M A (setFlight (.c e) none) Q E s:=by
 obtain⟨ox,ws,T,oT,ts,x1,x2,x3,x4,x5,x6,x7,x8,x9⟩:=ht
 have z3:3<ts.size:=(za7.mp x9).1
 obtain⟨fn,hfn⟩:∃fn:Array Value->Array Value,fn=(·.setIfInBounds 3 ((none:.cS).elim Value.none fun f=>rawInt f)):=⟨_,rfl⟩
 have ot:∀b,b≠T->(s.heap.update T (Obj.mapFields fn)).get? b=s.heap.get? b:=fun b nb=>Heap.get?_update_other _ _ (Ne.symm nb)
 have nr:∀b o,s.heap.get? b=some o->(∀us,o.data≠.fields us)->b≠T:=fun b o q nf z=>by
  rw [z,x7] at q
  cases q
  exact nf ts x8
 unfold setFlight
 refine wpAny_bind (wpAny_field x1 x3 x4 ?_)
 rw [if_pos (show (Value.ref T != Value.none)=true from by simp)]
 refine wpAny_setField x7 x8 z3 (hfn ▸ hq _ ⟨fun b o q=>(ot b fun z=>by rw [z,x5] at q;cases q).trans (hk b o q),hn,hl.of_keeps fun b o q nf=>⟨o,(ot b (nr b o q nf)).trans q,rfl⟩,?_⟩ (fun b o q nf=>⟨o.slots,(ot b (nr b o q nf)).trans q⟩) fun o q=>⟨o,(ot e (Ne.symm x6)).trans q,rfl⟩)
 exact⟨ox,ws,T,_,_,(ot e (Ne.symm x6)).trans x1,x2,x3,x4,x5,x6,Heap.get?_update_self _ x7 (Obj.isFreed_of_fields (Obj.data_mapFields x8 _)),Obj.data_mapFields x8 _,by rw [hfn];simp [z3]⟩
end
noncomputable abbrev vE:List Value:=[.type "ValueError", .type "Exception", .type "BaseException", .type "object"]
structure lx (K:.l)(C:Addr)(bm:.X)(ini:.dI):Prop where
 ex:∃N nm q bs hdct sn sub ab col dd k0 k1 k2 k3 k5 od es ep,K.lookup C=some (excClassObj nm q C N bs bm hdct sn sub ab col dd k0 k1 k2 k3 k5 "ValueError.__new__")/\K.lookup N=some od/\od.data=.dict es ep/\es.all (fun e=>match e.key with | .str _ _=>true | _=>false)=true/\nsFind es "__init__" = ini
theorem lx.at {K:.l}{C:Addr}{bm:.X}{ini:.dI}(x:lx K C bm ini):∃N nm q bs hdct sn sub ab col dd k0 k1 k2 k3 k5 mN,(∀h,K.In h->h.get? C=some (excClassObj nm q C N bs bm hdct sn sub ab col dd k0 k1 k2 k3 k5 "ValueError.__new__")/\h.Ns N mN)/\mN "__init__" = ini:=by
 obtain⟨N,nm,q,bs,hdct,sn,sub,ab,col,dd,k0,k1,k2,k3,k5,od,es,ep,e1,e2,e3,e4,e5⟩:=x.ex
 refine⟨N,nm,q,bs,hdct,sn,sub,ab,col,dd,k0,k1,k2,k3,k5,nsFind es,fun h k=>⟨k _ _ e1,?_⟩,e5⟩
 have hN:h.isNs N=true:=by
  unfold Heap.isNs
  rw [k _ _ e2]
  dsimp only
  rw [e3]
  exact e4
 obtain⟨o,es',ep',f1,f2,f3,f4⟩:=Heap.Ns.of_isNs hN
 rw [k _ _ e2] at f1
 cases f1
 rw [e3] at f2
 cases f2
 exact⟨_,es,ep,k _ _ e2,e3,f3,fun _=>rfl⟩
structure Qo (K:.l)(C:Addr)(up:.aj)(ini:.dI):Prop where
 cls:lx K C (up.map Value.ref++vE) ini
 ups:∀A∈up,∃bm,lx K A bm none
section
variable {X:Cx}{pins:.s}{σ:St}{H:Hp}{s:Shared}{C:Addr}{up:.aj}{x:Str}{np cpos pos:Pos}{e:Expr}{t:TA}
end
def NF (od:.cS)(a:Addr)(h:Heap):Prop:=∃oe,h.get? a=some oe/\oe.dict=od
theorem NF.kd (x:NF od a h)(k:KD h h' a):NF od a h':=by
 obtain⟨oe,q,e1⟩:=x
 obtain⟨o',q',e2⟩:=k oe q
 exact⟨o',q',e2.trans e1⟩
structure Qp (P:.am)(w:World)(outer:.e4)(H:Hp)(s:Shared)(C a:Addr)(od:.cS)(H':Hp)(s':Shared):Prop where
 os:s'.os=s.os
 bare:AllBare s'.gens
 un:Un (vL outer) [] H H' s.heap s'.heap
 hok:ly P w H' s'.heap
 new:s.heap.get? a=none
 nH:H' a=none
 fl:∃B a0,Heap.FlyingW B outer a (.c C) a0 s'.heap/\∀b o,s'.heap.get? b=some o->(H' b≠none\/((∃o',s.heap.get? b=some o')/\b∉vL outer))->B.get? b=some o
 dc:NF od a s'.heap
def Made (X:Cx)(pins:.s)(σ:St)(H:Hp)(C:Addr)(od:.cS)(e:Value)(s':Shared):Prop:=
 ∃a oe vs a0,e=.ref a/\Inv X pins σ H s'/\H a=none/\X.Y8.heap.get? a=none/\s'.heap.get? a=some oe/\oe.cls=.ref C/\oe.data=.fields vs/\vs[0]? = some a0/\vs[1]? = some .none/\oe.dict=od
def ND (X:Cx)(pins:.s)(σ:St)(H:Hp)(C:Addr)(od:.cS)(e:Value)(s':Shared):Prop:=∃a s H0,e=.ref a/\Inv X pins σ H0 s/\Qp X.prog X.w X.stack H0 s C a od H s'
section
variable {X:Cx}{pins:.s}{σ:St}{H H0:Hp}{s s':Shared}{C a:Addr}{od:.cS}{h1 h' B:Heap}
end
abbrev Cx.inS (X:Cx)(e:Value):Cx:={ X with A:=X.A.mark (some e),calm:=false,xe:=fun _ _=>False }
section
variable {X:Cx}{pins:.s}{σ:St}{H H0:Hp}{s s':Shared}{C D a:Addr}{od:.cS}{h1 h' B:Heap}
theorem Inv.inS (I:.u)(e:Value):Inv (X.inS e) pins σ H s:=
 ⟨⟨I.ok.mod,I.ok.kind,I.ok.glob,I.ok.blt,I.ok.above,I.ok.inj,I.ok.has,I.ok.cab,.bo,I.ok.frames,I.ok.stk,I.ok.exf,I.ok.bs,I.ok.bsz,I.ok.noex,I.ok.exfs,I.ok.funs,I.ok.frf⟩,I.os,I.bare,I.base,I.loc,I.cell,I.free,I.freeC,I.pin,I.hok,I.len⟩
theorem Inv.outS (ok:X.Ok)(I:Inv (X.inS e) pins σ H s):Inv X pins σ H s:=⟨ok,I.os,I.bare,I.base,I.loc,I.cell,I.free,I.freeC,I.pin,I.hok,I.len⟩
def nZ (a C:Addr)(od:.cS):Heap->Prop:=fun h=>∃oe vs,h.get? a=some oe/\oe.cls=.ref C/\oe.data=.fields vs/\oe.dict=od
theorem sA (I0:Inv X pins σ H0 s)(F:Qp X.prog X.w X.stack H0 s C a od H s')(hB:B.StaysIn h')(cov:∀b o,s'.heap.get? b=some o->(H b≠none\/((∃o',s.heap.get? b=some o')/\b∉vL X.stack))->B.get? b=some o)
  (up:s'.heap.UpToSlots h') (he:nZ a C od h') {tk:Nat}:Inv X pins σ (upd H a (.ext (nZ a C od))) { s' with heap:=h',toks:=tk }:=by
 have un0:=F.un
 have ne:∀b u,H b=some u->b≠a:=fun b u e z=>by rw [z,F.nH] at e;cases e
 have ne':∀b o,s.heap.get? b=some o->b≠a:=fun b o e z=>by rw [z,F.new] at e;cases e
 have MY:∀b u o,H b=some u->s'.heap.get? b=some o->h'.get? b=some o:=fun b u o e e1=>hB _ _ (cov b o e1 (.inl (by rw [e];simp)))
 have kept:∀b o,s.heap.get? b=some o->b∉vL X.stack->∀o1,s'.heap.get? b=some o1->h'.get? b=some o1:=fun b o e hb o1 e1=>hB _ _ (cov b o1 e1 (.inr ⟨⟨o,e⟩,hb⟩))
 have slot:∀b o,s.heap.get? b=some o->H0 b=none->b∈vL X.stack->∃sl,h'.get? b=some { o with slots:=sl }:=fun b o e n hb=>by
  obtain⟨sl,e1⟩:=un0.slot b o e n hb .h
  obtain⟨_,o2,e2,d2⟩:=I0.stack.mem hb
  rw [e] at e2
  cases e2
  obtain⟨sl2,e3⟩:=up b _ e1 d2
  exact⟨sl2,e3⟩
 refine I0.call' (s':={ s' with heap:=h',toks:=tk }) (ch:=[]) F.os ⟨fun b o e n hb hx=>?_,fun b o e n hb hx=>slot b o e n hb,fun b o e n hx=>?_,fun b o e hx=>?_,fun b xs e=>?_,fun b o u e=>?_,fun b ps e=>?_⟩ (fun b u e=>?_) F.bare fun b hb=>absurd hb .h
 ·exact kept b o e hb o (un0.keep b o e n hb hx)
 ·rw [aE (ne' b o e)];exact un0.free b o e n hx
 ·obtain⟨o1,e1⟩:=un0.there b o e hx
  by_cases hb:b∈vL X.stack
  ·obtain⟨sl,q⟩:=slot b o e (I0.stkFree b hb) hb
   exact⟨_,q⟩
  ·exact⟨o1,kept b o e hb o1 e1⟩
 ·have:=un0.tups b xs e
  rw [aE (ne b _ this)];exact this
 ·have:=un0.frzs b o u e
  rw [aE (ne b _ this)];exact this
 ·obtain⟨more,this⟩:=un0.tbls b ps e
  exact⟨more,by rw [aE (ne b _ this)];exact this⟩
 ·by_cases hb:b=a
  ·subst hb
   rw [aQ] at e
   cases e
   obtain⟨oe,vs,q⟩:=id he
   exact⟨he,⟨oe,q.1⟩,fun g1 g2 ⟨o1,v1,q1⟩ k=>⟨o1,v1,k _ q1.1,q1.2⟩⟩
  ·rw [aE hb] at e
   refine (F.hok b u e).stay (fun c w hc q=>?_) (fun c q=>?_) fun c xs q=>?_
   ·rcases hc with rfl | hc
    ·exact MY _ u w e q
    ·exact MY _ _ w hc q
   ·rw [aE (ne c _ q)];exact q
   ·rw [aE (ne c _ q)];exact q
theorem vF {K:.l}{b:Bool}(k:K.In s.heap)(cC:lx K C bC iC)(cD:lx K D bD iD)(hbD:bD.contains .fo=true)(hb:(Value.ref C::bC).contains (.c D)=b)(he:nZ a C od s.heap)
  {Q:Bool->Shared->Prop} (hq:Q b s):wpAny M A (excMatches (.c a) (.c D)) Q E s:=by
 obtain⟨N,nm,q,bs,hdct,sn,sub,ab,col,dd,k0,k1,k2,k3,k5,mN,e1,_⟩:=cC.at
 obtain⟨N',nm',q',bs',hdct',sn',sub',ab',col',dd',j0,j1,j2,j3,j5,mN',e1',_⟩:=cD.at
 have hC:=(e1 _ k).1
 have hDc:=(e1' _ k).1
 obtain⟨oe,vs,g1,g2,g3,g4⟩:=he
 have hcB:(Value.ref D::bD).contains .fo=true:=by rw [List.contains_cons,hbD,Bool.or_true]
 have f:=PySem.tc_notTuple
 obtain⟨hp,g,d,tk,os⟩:=s
 unfold excMatches
 cases b with
 |true =>
  repeat (first
   |(with_reducible refine wpAny_loadPart_at g1 ?_;rw [g2])
   |(with_reducible refine wpAny_loadPart_at hDc ?_)
   |(with_reducible refine zbb hDc ?_;rw [hcB])
   |(with_reducible refine zbb hC ?_;rw [hb])
   | wp_step)
  exact hq
 |false =>
  repeat (first
   |(with_reducible refine wpAny_loadPart_at g1 ?_;rw [g2])
   |(with_reducible refine wpAny_loadPart_at hDc ?_)
   |(with_reducible refine zbb hDc ?_;rw [hcB])
   |(with_reducible refine zbb hC ?_;rw [hb])
   | wp_step)
  exact hq
end
theorem vK (x:Heap.FlyingW B l a (.c C) a0 h)(dc:NF od a h):nZ a C od h:=by
 obtain⟨_,_,_,oe,vs,T,oT,ts,e1,e2,e3,_⟩:=x
 obtain⟨o',q,e'⟩:=dc
 rw [e1] at q
 cases q
 exact⟨oe,vs,e1,e2.1,e3,e'⟩
def pw (X:Cx)(pins:.s)(σ:St)(H:Hp)(C:Addr)(od:.cS)(a:Addr)(s5:Shared):Prop:=
 ∃s s' H0 B a0,Inv X pins σ H0 s/\Qp X.prog X.w X.stack H0 s C a od H s'/\Heap.FlyingW B X.stack a (.c C) a0 s5.heap/\(∀b o,s'.heap.get? b=some o->(H b≠none\/((∃o',s.heap.get? b=some o')/\b∉vL X.stack))->B.get? b=some o) /\
  s'.heap.UpToSlots s5.heap/\KD s'.heap s5.heap a/\s5={ s' with heap:=s5.heap }
section
variable {X:Cx}{pins:.s}{σ:St}{H:Hp}{s' s5:Shared}{C D a:Addr}{od:.cS}{bC bD:.X}{iC iD:.dI}{e:Value}{i:Nat}{n x:Str}{Y6:Stmt}{suite:.bG}{np pos:Pos}{Dn:Ends}{E:.m}{hs:List ExceptHandler}
theorem pw.inv (z:pw X pins σ H C od a s5):H a=none/\Inv X pins σ (upd H a (.ext (nZ a C od))) s5/\nZ a C od s5.heap:=by
 obtain⟨s,s',H0,B,a0,I0,F,x5,cov,u,kd,e5⟩:=z
 have he:=vK x5 (F.dc.kd kd)
 have I5:=sA (tk:=s'.toks) I0 F x5.1 cov u he
 exact⟨F.nH,by rw [e5];exact I5,he⟩
theorem A3 (hst:X.stack=X.env::X.outer)(hf:X.env.frame=some X.env.locals)(z:ND X pins σ H C od e s')
  (hh:∀a s5,e=.ref a->pw X pins σ H C od a s5->wpAny .q X.A (handleBy (.c a) X.env hs) (SP X pins Dn) E s5):
  wpAny .q X.A (noteFrame e X.env) (fun _ s₂=>wpAny .q X.A (setFlight e none) (fun _ s₃=>wpAny .q X.A (handleBy e X.env hs) (SP X pins Dn) E s₃) E s₂) E s':=by
 obtain⟨a,s,H0,rfl,I0,F⟩:=z
 obtain⟨B,a0,fl,cov⟩:=F.fl
 have hfr:=I0.ok.frames
 have fl0:=fl
 rw [hst] at fl hfr
 obtain⟨f1,f2,f3,f4⟩:=fl
 refine L1 hfr f3 hf f4 f1 f2 fun g1 y k1=>?_
 obtain⟨y1,y2,y3,y4⟩:=y
 refine CG (s:={ s' with heap:=g1 }) y1 y2 y3 f2 fun g2 f u k2=>?_
 refine hh a _ rfl ⟨s,s',H0,B,a0,I0,F,?_,cov,Heap.UpToSlots.trans (fun b o q nf=>y4 b o q nf) u,k1.trans k2,rfl⟩
 rw [hst]
 exact f
theorem Eh (z:pw X pins σ H C od a s5)(cC:lx X.K C bC iC)(cD:lx X.K D bD iD)(hbD:bD.contains .fo=true)(hD:(Value.ref C::bC).contains (.c D)=false)
  (hg:Gl X x) (hm:X.mg x=some (.c D)) (hr:wpAny .q X.A (handleBy (.c a) X.env hs) (SP X pins Dn) E s5) (hdb:.L=false:=by decide):
  wpAny .q X.A (handleBy (.c a) X.env (.ExceptHandler (.Y x np) nm bdy pos::hs)) (SP X pins Dn) E s5:=by
 obtain⟨nH,I5,he⟩:=z.inv
 refine wpAny_handleBy_cons (codeAny_handlers_test ?_) (by intro q;cases q)
 refine oJ (I5.inS (.c a)) hg hm ?_ hdb
 exact vF I5.kIn cC cD hbD hD he hr
theorem Bp (z:pw X pins σ H C od a s5)(cC:lx X.K C bC iC)(cD:lx X.K D bD iD)(hbD:bD.contains .fo=true)(hD:(Value.ref C::bC).contains (.c D)=true)
  (hg:Gl X x) (hm:X.mg x=some (.c D))
  (hs':∀s2,H a=none->Inv (X.inS (.c a)) pins σ (upd H a (.ext (nZ a C od))) s2->wpAny .q (X.A.mark (.J a)) (execs (Y6::suite) X.env) (SP (X.inS (.c a)) pins Dn) .aJ s2)
  (hdb:.L=false:=by decide):
  wpAny .q X.A (handleBy (.c a) X.env (.ExceptHandler (.Y x np) none (Y6::suite) pos::hs)) (SP X pins Dn) E s5:=by
 obtain⟨nH,I5,he⟩:=z.inv
 obtain⟨s,s',H0,B,a0,I0,F,x5,cov,u,kd,e5⟩:=z
 refine wpAny_handleBy_cons (codeAny_handlers_test ?_) (by intro q;cases q)
 refine oJ (I5.inS (.c a)) hg hm ?_ hdb
 refine vF I5.kIn cC cD hbD hD he ?_
 show codeAny _ _ _ _ _
 refine codeAny_handlers_suite ?_
 obtain⟨f1,f2,f3,f4⟩:=x5
 refine CG f1 f3 f4.at f2 fun h₆ x6 u6 k6=>?_
 have I6:=sA (tk:=s'.toks) I0 F x6.1 cov (u.trans u6) (vK x6 (F.dc.kd (kd.trans k6)))
 rw [e5]
 refine wpAny_mono (hs' _ F.nH (I6.inS (.c a))) (fun f s8 h8=>?_) fun _ _ q=>False.elim q
 cases f with
 |next=>obtain⟨σ',H',I8,q⟩:=h8;exact⟨σ',H',I8.outS I0.ok,q⟩
 |brk=>obtain⟨σ',H',I8,q⟩:=h8;exact⟨σ',H',I8.outS I0.ok,q⟩
 |cont=>obtain⟨σ',H',I8,q⟩:=h8;exact⟨σ',H',I8.outS I0.ok,q⟩
 |ret u=>obtain⟨w,σ',H',I8,r,q⟩:=h8;exact⟨w,σ',H',I8.outS I0.ok,r,q⟩
end
section
variable {prog:.am}{w:World}{A:Around}{E:.m}{h:Heap}{g:Array GenState}{d:Drawn}{t:Nat}{os:OsState}{a C:Addr}{o:Obj}{K:.l}{bm:.X}
end
open Builtin Builtin.ObjectAttr
section
variable {prog:.am}{w:World}{A:Around}{E:.m}{s:Shared}{K:.l}{x C:Addr}{ox:Obj}{od:Option Obj}{name:Str}{tk:Tok}{v:Value}{R:.e3}
end
section
variable {X:Cx}{pins:.s}{σ:St}{H:Hp}{s:Shared}{a C:Addr}{f:Str}
end
end L2
namespace TM
open PySem PySem.Spec PyProof.Rows L2
inductive T where
 |non | bl (b:Bool) | int (i:Int) | str (x:Str) | ty (n:String) | tup (ts:List T) | lst (ts:List T) | scr (ts:List T) | dct (ns:.Y) (ts:List T) | obj (C:Addr) (ns:.Y) (ts:List T) | ptr (a:Addr) | exc (C:Addr) (ns:.Y) (ts:List T)
abbrev T.dic:T:=.dct [] []
def df:List Str->List V->List (Key×V)
 |n::ns,v::vs=>(.inr n,v)::df ns vs
 |_,_=>[]
mutual
def Rep (K:.l)(F:Hp):T->V->Prop
 | .non,v=>v=.non
 | .bl b,v=>v=.bl b
 | .int i,v=>v=.int i
 | .str x,v=>v=.str x
 | .ty n,v=>v=.ty n
 | .tup ts,v=>∃a xs,v=.ref a/\mM K F a xs/\aT K F ts xs
 | .lst ts,v=>∃a xs,v=.ref a/\F a=some .c6/\aT K F ts xs
 | .scr ts,v=>∃a xs,v=.ref a/\gR K F a xs/\aT K F ts xs
 | .dct ns ts,v=>∃a o vs,v=.ref a/\F a=some (.frz o (.dK (df ns vs)))/\vs.length=ns.length/\aT K F ts vs
 | .obj C ns ts,v=>∃a dx vs,v=.ref a/\F a=some (.ah (ns.zip vs))/\vs.length=ns.length/\aT K F ts vs
 | .ptr a,v=>v=.ref a
 | .exc C ns ts,v=>∃a od,v=.ref a/\F a=some (.ext (nZ a C od))/\((ns=[]/\ts=[]/\od=none)\/∃d us,od=some d/\F d=some (.xd (ns.zip us))/\us.length=ns.length/\aT K F ts us)
def aT (K:.l)(F:Hp):List T->List V->Prop
 |[],xs=>xs=[]
 |t::ts,xs=>∃v r,xs=v::r/\Rep K F t v/\aT K F ts r
end
theorem cm {K:.l}{H H':Hp}{a:Addr}{xs:List V}(e:aV H H')(h:mM K H a xs):mM K H' a xs:=by
 rcases h with (h | ⟨o,h⟩) | h
 ·exact .inl (.inl (e _ _ h))
 ·exact .inl (.inr ⟨o,e _ _ h⟩)
 ·exact .inr h
mutual
theorem Rep.mono {K:.l}{F F':Hp}(e:aV F F'):∀{t:T} {v:V},Rep K F t v->Rep K F' t v
 | .non,_,h=>h
 | .bl _,_,h=>h
 | .int _,_,h=>h
 | .str _,_,h=>h
 | .ty _,_,h=>h
 | .tup ts,_,h=>by
  obtain⟨a,xs,h1,h2,h3⟩:=h
  exact⟨a,xs,h1,cm e h2,aT.mono e h3⟩
 | .lst ts,_,h=>by
  obtain⟨a,xs,h1,h2,h3⟩:=h
  exact⟨a,xs,h1,e _ _ h2,aT.mono e h3⟩
 | .scr ts,_,h=>by
  obtain⟨a,xs,h1,h2,h3⟩:=h
  exact⟨a,xs,h1,e.seq h2,aT.mono e h3⟩
 | .dct ns ts,_,h=>by
  obtain⟨a,o,vs,h1,h2,h3,h4⟩:=h
  exact⟨a,o,vs,h1,e _ _ h2,h3,aT.mono e h4⟩
 | .obj C ns ts,_,h=>by
  obtain⟨a,dx,vs,h1,h2,h3,h4⟩:=h
  exact⟨a,dx,vs,h1,e _ _ h2,h3,aT.mono e h4⟩
 | .ptr _,_,h=>h
 | .exc _ _ ts,_,h=>by
  obtain⟨a,od,h1,h2,h3⟩:=h
  refine⟨a,od,h1,e _ _ h2,h3.imp id fun⟨d,us,k1,k2,k3,k4⟩=>⟨d,us,k1,e _ _ k2,k3,aT.mono e k4⟩⟩
theorem aT.mono {K:.l}{F F':Hp}(e:aV F F'):∀{ts:List T} {vs:List V},aT K F ts vs->aT K F' ts vs
 |[],_,h=>h
 |t::ts,_,h=>by
  obtain⟨v,r,h1,h2,h3⟩:=h
  exact⟨v,r,h1,Rep.mono e h2,aT.mono e h3⟩
end
section
variable {K:.l}{F:Hp}
theorem aT.length:∀{ts:List T} {vs:List V},aT K F ts vs->vs.length=ts.length
 |[],_,h=>by cases h;rfl
 |t::ts,_,h=>by
  obtain⟨v,r,rfl,h2,h3⟩:=h
  simp [aT.length h3]
theorem aT.get:∀{ts:List T} {vs:List V} {i:Nat} {t:T},aT K F ts vs->ts[i]? = some t->∃v,vs[i]? = some v/\Rep K F t v
 |[],_,_,_,h,e=>by simp at e
 |t::ts,_,0,_,h,e=>by
  obtain⟨v,r,rfl,h2,h3⟩:=h
  simp at e;subst e
  exact⟨v,rfl,h2⟩
 |t::ts,_,i+1,u,h,e=>by
  obtain⟨v,r,rfl,h2,h3⟩:=h
  obtain⟨w,h4,h5⟩:=aT.get (i:=i) (t:=u) h3 (by simpa using e)
  exact⟨w,by simpa using h4,h5⟩
theorem aT.append:∀{ts us:List T} {vs ws:List V},aT K F ts vs->aT K F us ws->aT K F (ts++us) (vs++ws)
 |[],_,_,_,h,h'=>by cases h;exact h'
 |t::ts,_,_,_,h,h'=>by
  obtain⟨v,r,rfl,h2,h3⟩:=h
  exact⟨v,r++_,rfl,h2,aT.append h3 h'⟩
theorem aT.one (h:Rep K F t v):aT K F [t] [v]:=⟨v,[],rfl,h,rfl⟩
theorem aT.take:∀{ts:List T} {vs:List V} (n:Nat),aT K F ts vs->aT K F (ts.take n) (vs.take n)
 |_,_,0,_=>rfl
 |[],_,n+1,h=>by cases h;rfl
 |t::ts,_,n+1,h=>by
  obtain⟨v,r,rfl,h2,h3⟩:=h
  exact⟨v,r.take n,rfl,h2,aT.take n h3⟩
theorem aT.drop:∀{ts:List T} {vs:List V} (n:Nat),aT K F ts vs->aT K F (ts.drop n) (vs.drop n)
 |_,_,0,h=>h
 |[],_,n+1,h=>by cases h;rfl
 |t::ts,_,n+1,h=>by
  obtain⟨v,r,rfl,h2,h3⟩:=h
  exact aT.drop n h3
theorem aT.rev:∀{ts:List T} {vs:List V},aT K F ts vs->aT K F ts.reverse vs.reverse
 |[],_,h=>by cases h;rfl
 |t::ts,_,h=>by
  obtain⟨v,r,rfl,h2,h3⟩:=h
  rw [zbx,zbx]
  exact (aT.rev h3).append (.one h2)
theorem vZ:∀ns:List Int,aT K F (ns.map T.int) (ns.map V.int)
 |[]=>rfl
 |n::ns=>⟨.int n,ns.map V.int,rfl,rfl,vZ ns⟩
end
structure bw (F H F' H':Hp):Prop where
 sF:aV F F'
 sH:aV H H'
 fh:aV F' H'
 nw:∀a o,F' a=some o->F a=some o\/H a=none
theorem bw.refl (h:aV F H):bw F H F H:=⟨aV.refl _,aV.refl _,h,fun _ _ e=>.inl e⟩
theorem bw.trans (a:bw F H F1 H1)(b:bw F1 H1 F2 H2):bw F H F2 H2:=
 ⟨a.sF.trans b.sF,a.sH.trans b.sH,b.fh,fun x o e=>by
  rcases b.nw x o e with e | e
  ·exact a.nw x o e
  ·exact .inr (a.sH.free e)⟩
theorem dz {H:Hp}(h:H p=none):aV H (upd H p o):=fun b u q=>by rw [aE (bx q h)];exact q
theorem bw.new (o:HO)(h:aV F H)(n:H p=none):bw F H (upd F p o) (upd H p o):=by
 refine⟨dz (h.free n),dz n,fun b u q=>?_,fun a u q=>?_⟩
 ·by_cases e:b=p
  ·subst e;rw [aQ] at q ⊢;exact q
  ·rw [aE e] at q ⊢;exact h _ _ q
 ·by_cases e:a=p
  ·subst e;exact .inr n
  ·rw [aE e] at q;exact .inl q
inductive Sl where
 |sh (t:T) | own (ts:List T)
abbrev aD:=List (Option Sl)
def DN (K:.l)(Y9 F H:Hp):Sl->V->Prop
 | .sh t,v=>Rep K F t v
 | .own ts,v=>∃p vs,v=.ref p/\H p=some .bC/\F p=none/\Y9 p=none/\aT K F ts vs
structure aJ (K:.l)(Y0 Y9 F H:Hp)(σ:L2.St)(τ:aD):Prop where
 g:bw Y0 Y9 F H
 len:σ.length=τ.length
 sl:∀(i:Nat) (s:Sl),τ[i]? = some (some s)->∃v,σ[i]? = some .dw/\DN K Y9 F H s v
 dj:∀(i j:Nat) (ts us:List T) (p:Addr),i≠j->τ[i]? = some (.v ts)->τ[j]? = some (.v us)->σ[i]? = some (.J p)->σ[j]?≠some (.J p)
section
variable {K:.l}{Y0 Y9 F H F' H':Hp}{σ:L2.St}{τ:aD}
theorem DN.grow (g:bw F H F' H')(h:DN K Y9 F H s v):DN K Y9 F' H' s v:=by
 cases s with
 |sh t=>exact Rep.mono g.sF h
 |own ts =>
  obtain⟨p,vs,h1,h2,h3,h4,h5⟩:=h
  refine⟨p,vs,h1,g.sH _ _ h2,?_,h4,aT.mono g.sF h5⟩
  cases e:F' p with
  |none=>rfl
  |some o =>
   rcases g.nw p o e with q | q
   ·rw [q] at h3;cases h3
   ·rw [q] at h2;cases h2
theorem aJ.grow (E:.aG)(g:bw F H F' H'):aJ K Y0 Y9 F' H' σ τ:=by
 refine⟨E.g.trans g,E.len,fun i s e=>?_,E.dj⟩
 obtain⟨v,h1,h2⟩:=E.sl i s e
 exact⟨v,h1,h2.grow g⟩
theorem aJ.set {i:Nat}(E:.aG)(r:Rep K F t v):aJ K Y0 Y9 F H (σ.set i .dw) (τ.set i (.y t)):=by
 refine⟨E.g,by simp [E.len],fun j s e=>?_,fun j k ts us p hjk e1 e2 e3=>?_⟩
 ·by_cases hj:i=j
  ·subst hj
   by_cases hl:i<τ.length
   ·rw [zam hl] at e
    cases e
    exact⟨v,zam .cW,r⟩
   ·rw [List.getElem?_eq_none .j] at e;cases e
  ·rw [zal hj] at e
   rw [zal hj]
   exact E.sl j s e
 ·have n1:i≠j:=fun z=>by
   subst z
   by_cases hl:i<τ.length
   ·rw [zam hl] at e1;cases e1
   ·rw [List.getElem?_eq_none .j] at e1;cases e1
  have n2:i≠k:=fun z=>by
   subst z
   by_cases hl:i<τ.length
   ·rw [zam hl] at e2;cases e2
   ·rw [List.getElem?_eq_none .j] at e2;cases e2
  rw [zal n1] at e1 e3
  rw [zal n2] at e2 ⊢
  exact E.dj j k ts us p hjk e1 e2 e3
theorem aJ.freeze {i:Nat}(E:.aG)(e:τ[i]? = some (.v ts)):
  ∃F' v,σ[i]? = some .dw/\aJ K Y0 Y9 F' H σ (τ.set i (.y .dX))/\aV F F'/\Rep K F' .dX v:=by
 obtain⟨v,h1,p,vs,rfl,h2,h3,h4,h5⟩:=E.sl i _ e
 have sF:aV F (upd F p .bC):=dz h3
 have rp:Rep K (upd F p .bC) .dX (.c p):=⟨p,vs,rfl,aQ,aT.mono sF h5⟩
 refine⟨upd F p .bC,.ref p,h1,⟨⟨E.g.sF.trans sF,E.g.sH,fun b o q=>?_,fun b o q=>?_⟩,by simp [E.len],fun j s q=>?_,fun j k us ws r hjk e1 e2 e3=>?_⟩,sF,rp⟩
 ·by_cases z:b=p
  ·subst z;rw [aQ] at q;cases q;exact h2
  ·rw [aE z] at q;exact E.g.fh _ _ q
 ·by_cases z:b=p
  ·subst z;exact .inr h4
  ·rw [aE z] at q;exact E.g.nw _ _ q
 ·by_cases hj:i=j
  ·subst hj
   have hl:i<τ.length:=by
    have:=(zas.mp e).1
    exact this
   rw [zam hl] at q
   cases q
   exact⟨_,h1,rp⟩
  ·rw [zal hj] at q
   obtain⟨v,g1,g2⟩:=E.sl j s q
   refine⟨v,g1,?_⟩
   cases s with
   |sh t=>exact Rep.mono sF g2
   |own us =>
    obtain⟨r,ws,rfl,k2,k3,k4,k5⟩:=g2
    have hne:r≠p:=fun z=>by
     subst z
     exact E.dj i j ts us r hj e q h1 g1
    exact⟨r,ws,rfl,k2,by rw [aE hne];exact k3,k4,aT.mono sF k5⟩
 ·have hl:i<τ.length:=(zas.mp e).1
  have n1:i≠j:=fun z=>by subst z;rw [zam hl] at e1;cases e1
  have n2:i≠k:=fun z=>by subst z;rw [zam hl] at e2;cases e2
  rw [zal n1] at e1
  rw [zal n2] at e2
  exact E.dj j k us ws r hjk e1 e2 e3
theorem aJ.setOwn {i:Nat}(E:.aG)(n:H p=none)(r:aT K F ts vs):aJ K Y0 Y9 F (upd H p .bC) (σ.set i (.J p)) (τ.set i (.v ts)):=by
 have sH:aV H (upd H p .bC):=dz n
 have fp:F p=none:=E.g.fh.free n
 have old:∀{j:Nat} {s:Sl},i≠j->τ[j]? = some (some s)->∃v,σ[j]? = some .dw/\DN K Y9 F (upd H p .bC) s v:=fun {j s} hj q=>by
  obtain⟨v,g1,g2⟩:=E.sl j s q
  refine⟨v,g1,?_⟩
  cases s with
  |sh t=>exact g2
  |own us =>
   obtain⟨r,ws,rfl,k2,k3,k4,k5⟩:=g2
   exact⟨r,ws,rfl,sH _ _ k2,k3,k4,k5⟩
 refine⟨⟨E.g.sF,E.g.sH.trans sH,E.g.fh.trans sH,E.g.nw⟩,by simp [E.len],fun j s e=>?_,fun j k ts' us q hjk e1 e2 e3 e4=>?_⟩
 ·by_cases hj:i=j
  ·subst hj
   by_cases hl:i<τ.length
   ·rw [zam hl] at e
    cases e
    exact⟨.ref p,zam .cW,p,vs,rfl,aQ,fp,E.g.sH.free n,r⟩
   ·rw [List.getElem?_eq_none .j] at e;cases e
  ·rw [zal hj] at e
   rw [zal hj]
   exact old hj e
 ·by_cases hj:i=j
  ·subst hj
   have n2:i≠k:=hjk
   rw [zal n2] at e2 e4
   by_cases hl:i<τ.length
   ·rw [zam .cW] at e3
    cases e3
    obtain⟨v,g1,r',ws,rfl,k2,_⟩:=E.sl k _ e2
    rw [g1] at e4;cases e4
    rw [n] at k2;cases k2
   ·rw [List.getElem?_eq_none .j] at e1;cases e1
  ·rw [zal hj] at e1 e3
   by_cases hk:i=k
   ·subst hk
    by_cases hl:i<τ.length
    ·rw [zam .cW] at e4
     cases e4
     obtain⟨v,g1,r',ws,rfl,k2,_⟩:=E.sl j _ e1
     rw [g1] at e3;cases e3
     rw [n] at k2;cases k2
    ·rw [List.getElem?_eq_none .j] at e2;cases e2
   ·rw [zal hk] at e2 e4
    exact E.dj j k ts' us q hjk e1 e2 e3 e4
theorem aJ.turnOwn {i:Nat}(E:.aG)(e:τ[i]? = some (.v ts))(hp:σ[i]? = some (.J p))(r:aT K F us vs):
  aJ K Y0 Y9 F (upd H p .bC) σ (τ.set i (.v us)):=by
 obtain⟨v,h1,p',vs',rfl,h2,h3,h4,h5⟩:=E.sl i _ e
 rw [hp] at h1;cases h1
 have hl:i<τ.length:=(zas.mp e).1
 refine⟨⟨E.g.sF,fun b o q=>?_,fun b o q=>?_,E.g.nw⟩,by simp [E.len],fun j s q=>?_,fun j k ts' us' q hjk e1 e2 e3=>?_⟩
 ·rw [aE (fun z=>by subst z;rw [h4] at q;cases q)];exact E.g.sH _ _ q
 ·rw [aE (fun z=>by subst z;rw [h3] at q;cases q)];exact E.g.fh _ _ q
 ·by_cases hj:i=j
  ·subst hj
   rw [zam hl] at q;cases q
   exact⟨_,hp,p,vs,rfl,aQ,h3,h4,r⟩
  ·rw [zal hj] at q
   obtain⟨v,g1,g2⟩:=E.sl j s q
   refine⟨v,g1,?_⟩
   cases s with
   |sh t=>exact g2
   |own us' =>
    obtain⟨r',ws,rfl,k2,k3,k4,k5⟩:=g2
    have hne:r'≠p:=fun z=>by subst z;exact E.dj i j ts us' r' hj e q hp g1
    exact⟨r',ws,rfl,by rw [aE hne];exact k2,k3,k4,k5⟩
 ·have q1:∃zs,τ[j]? = some (.v zs):=by
   by_cases hj:i=j
   ·subst hj;exact⟨_,e⟩
   ·rw [zal hj] at e1;exact⟨_,e1⟩
  have q2:∃zs,τ[k]? = some (.v zs):=by
   by_cases hj:i=k
   ·subst hj;exact⟨_,e⟩
   ·rw [zal hj] at e2;exact⟨_,e2⟩
  obtain⟨z1,q1⟩:=q1
  obtain⟨z2,q2⟩:=q2
  exact E.dj j k z1 z2 q hjk q1 q2 e3
end
abbrev FE:=aD->Option (T×aD)
abbrev FA:=aD->Option (List T×aD)
abbrev FT:=aD->Option (Bool×aD)
inductive R where
 |nx (τ:aD) | rt (t:T) | bk (τ:aD) | ct (τ:aD)
abbrev FS:=aD->Option R
abbrev FG:=T->aD->Option aD
section
variable (K:.l)(Y0 Y9:Hp)
def tE (f:FE):TE:=fun σ H Q=>∃F τ t τ',aJ K Y0 Y9 F H σ τ/\f τ=some (t,τ')/\∀F' H' v,aJ K Y0 Y9 F' H' σ τ'->aV F F'->Rep K F' t v->Q v H'
def tA (f:FA):TA:=fun σ H Q=>∃F τ ts τ',aJ K Y0 Y9 F H σ τ/\f τ=some (ts,τ')/\∀F' H' vs,aJ K Y0 Y9 F' H' σ τ'->aV F F'->aT K F' ts vs->Q vs H'
def tT (f:FT):TT:=fun σ H Q=>∃F τ b τ',aJ K Y0 Y9 F H σ τ/\f τ=some (b,τ')/\∀F' H',aJ K Y0 Y9 F' H' σ τ'->aV F F'->Q b H'
def pq (F:Hp)(D:Ends):R->Prop
 | .nx τ'=>∀F' H' σ',aJ K Y0 Y9 F' H' σ' τ'->aV F F'->D.nx σ' H'
 | .rt t=>∀F' H' v,bw Y0 Y9 F' H'->Rep K F' t v->D.rt v H'
 | .bk τ'=>∀F' H' σ',aJ K Y0 Y9 F' H' σ' τ'->aV F F'->D.bk σ' H'
 | .ct τ'=>∀F' H' σ',aJ K Y0 Y9 F' H' σ' τ'->aV F F'->D.ct σ' H'
def tS (f:FS):TS:=fun D σ H=>∃F τ r,aJ K Y0 Y9 F H σ τ/\f τ=some r/\pq K Y0 Y9 F D r
end
def SE (X:Cx)(e:Expr)(f:FE):Prop:=∀Y0 Y9,PE X e (tE X.K Y0 Y9 f)
def SA (X:Cx)(es:.az)(f:FA):Prop:=∀Y0 Y9,PA X es (tA X.K Y0 Y9 f)
def ST (X:Cx)(e:Expr)(f:FT):Prop:=∀Y0 Y9,PT X e (tT X.K Y0 Y9 f)
def SW (X:Cx)(e:Expr)(f:FT):Prop:=∀Y0 Y9,PW X e (tT X.K Y0 Y9 f)
def SS (X:Cx)(st:Stmt)(f:FS):Prop:=∀Y0 Y9,PS X st (tS X.K Y0 Y9 f)
def AV (X:Cx)(st:.bG)(f:FS):Prop:=∀Y0 Y9,mK X st (tS X.K Y0 Y9 f)
section
variable {X:Cx}{e a b:Expr}{pos:Pos}{f fa fb:FE}
theorem PE.weak {t t':TE}(h:PE X e t)(i:∀σ H Q,t' σ H Q->t σ H Q):PE X e t':=fun pins s σ H Q I q=>h pins s σ H Q I (i σ H Q q)
theorem PT.weak {t t':TT}(h:PT X e t)(i:∀σ H Q,t' σ H Q->t σ H Q):PT X e t':=fun pins s σ H Q I q=>h pins s σ H Q I (i σ H Q q)
theorem PW.weak {t t':TT}(h:PW X e t)(i:∀σ H Q,t' σ H Q->t σ H Q):PW X e t':=fun wh pins s σ H Q I q=>h wh pins s σ H Q I (i σ H Q q)
theorem PA.weak {t t':TA}(h:PA X es t)(i:∀σ H Q,t' σ H Q->t σ H Q):PA X es t':=fun p pins s σ H Q I q=>h p pins s σ H Q I (i σ H Q q)
theorem PS.weak {st:Stmt}{t t':TS}(h:PS X st t)(i:∀D σ H,t' D σ H->t D σ H):PS X st t':=fun pins s σ H D I q=>h pins s σ H D I (i D σ H q)
theorem mK.weak {st:.bG}{t t':TS}(h:mK X st t)(i:∀D σ H,t' D σ H->t D σ H):mK X st t':=fun pins s σ H D I q=>h pins s σ H D I (i D σ H q)
def fC (t:T):FE:=fun τ=>some (t,τ)
def ae (i:Nat):FE:=fun τ=>match τ[i]? with
 |some (.y t)=>some (t,τ)
 |some (.v ts)=>some (.lst ts,τ.set i (.y .dX))
 |_=>none
theorem gk (h:PE X e (tC v))(r:∀F,Rep X.K F t v):SE X e (fC t):=fun Y0 Y9=>PE.weak h fun σ H Q hq__=>by
 obtain⟨F,τ,t',τ',E,e1,q⟩:=hq__
 cases e1
 exact q F H v E .en (r F)
theorem aj {i:Int}{j}:SE X (.Constant (.j i) j pos) (fC (.j i)):=gk Mh fun _=>rfl
theorem tN {c:Bool}{j}:SE X (.Constant (.bool c) j pos) (fC (.bl c)):=gk OP fun _=>rfl
theorem nV {j}:SE X (.Constant .none j pos) (fC .non):=gk Mi fun _=>rfl
theorem bg {j}:SE X (.Constant .fH j pos) (fC .fH):=gk Mn fun _=>rfl
theorem aa (i:Nat)(h:PE X .cC (yu i)):SE X .cC (ae i):=fun Y0 Y9=>PE.weak h fun σ H Q hq__=>by
 obtain⟨F,τ,t,τ',E,e1,q⟩:=hq__
 unfold ae at e1
 split at e1
 ·next t' e2 =>
  cases e1
  obtain⟨v,h1,h2⟩:=E.sl i _ e2
  exact⟨v,h1,q F H v E .en h2⟩
 ·next ts e2 =>
  cases e1
  obtain⟨F',v,h1,E',sF,r⟩:=E.freeze e2
  exact⟨v,h1,q F' H v E' sF r⟩
 ·cases e1
theorem tQ (hg:Gl X x)(hm:X.mg x=none)(hv:bootBuiltins x=some (.type n))(hn:x≠"__name__" := by decide)(hd:.L=false:=by decide):SE X .cC (fC (.ty n)):=
 gk (JN (v:=.ty n) hg hm hv rfl hn hd) fun _=>rfl
def MG (K:.l)(g:.cP):R2:=fun x y H Q=>∃F a b t,aV F H/\Rep K F a x/\Rep K F b y/\g a b=some t/\∀F' H' v,bw F H F' H'->Rep K F' t v->Q v H'
def Sn (K:.l)(g:T->Option T):V->Hp->VK->Prop:=fun x H Q=>∃F a t,aV F H/\Rep K F a x/\g a=some t/\∀F' H' v,bw F H F' H'->Rep K F' t v->Q v H'
def Qd (K:.l)(g:.R):List V->Hp->VK->Prop:=fun xs H Q=>∃F ts t,aV F H/\aT K F ts xs/\g ts=some t/\∀F' H' v,bw F H F' H'->Rep K F' t v->Q v H'
abbrev lr (X:Cx)(f:.dy)(g:.cP):Prop:=pz X f (MG X.K g)
abbrev RF (X:Cx)(f:Value->Sem Value)(g:T->Option T):Prop:=PD X f (Sn X.K g)
abbrev gy (X:Cx)(f:Value)(g:.R):Prop:=gb X f (Qd X.K g)
def ar (g:.cP)(fa fb:FE):FE:=fun τ=>(fa τ).bind fun p=>(fb p.2).bind fun q=>(g p.1 q.1).bind fun t=>some (t,q.2)
def ux (g:T->Option T)(fa:FE):FE:=fun τ=>(fa τ).bind fun p=>(g p.1).bind fun t=>some (t,p.2)
theorem bind_some {α β:Type}{o:Option α}{f:α->Option β}{z:β}(h:o.bind f=some z):∃x,o=some x/\f x=some z:=by
 cases o with
 |none=>cases h
 |some x=>exact⟨x,rfl,h⟩
theorem qT {g:.cP}{Y0 Y9:Hp}{σ:L2.St}{H:Hp}{Q:VK}(h:tE X.K Y0 Y9 (ar g fa fb) σ H Q):Pj (MG X.K g) (tE X.K Y0 Y9 fa) (tE X.K Y0 Y9 fb) σ H Q:=by
 obtain⟨F,τ,t,τ',E,e1,q⟩:=h
 obtain⟨⟨x,τ1⟩,e2,e1⟩:=bind_some e1
 obtain⟨⟨y,τ2⟩,e3,e1⟩:=bind_some e1
 obtain⟨z,e4,e1⟩:=bind_some e1
 cases e1
 refine⟨F,τ,x,τ1,E,e2,fun F1 H1 v1 E1 s1 r1=>⟨F1,τ1,y,_,E1,e3,fun F2 H2 v2 E2 s2 r2=>?_⟩⟩
 exact⟨F2,x,y,t,E2.g.fh,Rep.mono s2 r1,r2,e4,fun F3 H3 v3 g3 r3=>q F3 H3 v3 (E2.grow g3) ((s1.trans s2).trans g3.sF) r3⟩
theorem aI (ho:lr X (binaryOp op) g)(ha:SE X a fa)(hb:SE X b fb):SE X (.BinOp a op b pos) (ar g fa fb):=
 fun Y0 Y9=>PE.weak (OR ho .b3 .dL) fun _ _ _=>qT
theorem Dk {op:UnaryOp}{g:T->Option T}(ho:RF X (unaryOp op) g)(ha:SE X a fa):SE X (.UnaryOp op a pos) (ux g fa):=
 fun Y0 Y9=>PE.weak (OS ho .b3) fun σ H Q hq__=>by
  obtain⟨F,τ,t,τ',E,e1,q⟩:=hq__
  obtain⟨⟨x,τ1⟩,e2,e1⟩:=bind_some e1
  obtain⟨z,e4,e1⟩:=bind_some e1
  cases e1
  exact⟨F,τ,x,_,E,e2,fun F1 H1 v1 E1 s1 r1=>⟨F1,x,t,E1.g.fh,r1,e4,fun F3 H3 v3 g3 r3=>q F3 H3 v3 (E1.grow g3) (s1.trans g3.sF) r3⟩⟩
theorem eU (ho:lr X (.X op) g)(ha:SE X a fa)(hb:SE X b fb)(hm:behindInMarks op b=false):SE X .eR (ar g fa fb):=
 fun Y0 Y9=>PE.weak (JO ho .b3 .dL hm) fun _ _ _=>qT
theorem aM (ho:M7 X (MG X.K g))(ha:SE X a fa)(hb:SE X b fb)(hs:Cf b):SE X (.U a b) (ar g fa fb):=
 fun Y0 Y9=>PE.weak (OQ ho .b3 .dL hs) fun _ _ _=>qT
def cw (f:FE):FT:=fun τ=>(f τ).bind fun p=>match p.1 with | .bl c=>some (c,p.2) | _=>none
def Ny:T->Option Bool
 | .non=>some false
 | .bl c=>some c
 | .int i=>some (i != 0)
 | .str x=>if x.length≤sizeLine then some ((x.length:Int) != 0) else none
 | .tup ts=>some (!ts.isEmpty)
 | .lst ts=>some (!ts.isEmpty)
 | .scr ts=>some (!ts.isEmpty)
 | .dct _ _=>none
 | .obj _ _ _=>none
 | .ptr _=>none
 | .exc _ _ _=>none
 | .ty _=>none
def cq (f:FE):FT:=fun τ=>(f τ).bind fun p=>(Ny p.1).bind fun c=>some (c,p.2)
theorem bq {op:CmpOp}{g:.cP}(ho:lr X (.X op) g)(ha:SE X a fa)(hb:SE X b fb)(hm:behindInMarks op b=false):ST X .eR (cw (ar g fa fb)):=
 fun Y0 Y9=>PT.weak (JY ho .b3 .dL hm) fun σ H Q hq__=>by
  obtain⟨F,τ,c,τ',E,e1,q⟩:=hq__
  obtain⟨⟨x,τ1⟩,e2,e1⟩:=bind_some e1
  dsimp only at e1
  split at e1
  ·cases e1
   refine qT (Q:=fun x H'=>∃k,x=V.bl k/\Q k H') ⟨F,τ,_,_,E,e2,fun F' H' v E' s' r'=>?_⟩
   exact⟨c,r',q F' H' E' s'⟩
  ·cases e1
theorem kn {K:.l}{F:Hp}{ts:List T}{vs:List V}(h:aT K F ts vs):vs.isEmpty=ts.isEmpty:=by
 cases ts with
 |nil=>cases h;rfl
 |cons t ts=>obtain⟨v,r,rfl,_⟩:=h;rfl
theorem Kn {K:.l}{F H:Hp}{t:T}{v:V}{c:Bool}(s:aV F H)(r:Rep K F t v)(e:Ny t=some c):Lf K v H c:=by
 cases t with
 |non=>cases r;cases e;exact rfl
 |bl _=>cases r;cases e;exact rfl
 |int _=>cases r;cases e;exact rfl
 |str x =>
  cases r
  simp only [Ny] at e
  split at e
  ·next h=>cases e;exact⟨h,rfl⟩
  ·cases e
 |ty _=>cases e
 |tup ts =>
  obtain⟨p,xs,rfl,h1,h2⟩:=r
  cases e
  exact .inr (.inl ⟨xs,cm s h1,by rw [kn h2]⟩)
 |lst ts =>
  obtain⟨p,xs,rfl,h1,h2⟩:=r
  cases e
  exact .inl ⟨xs,gR.of (s _ _ h1),by rw [kn h2]⟩
 |scr ts =>
  obtain⟨p,xs,rfl,h1,h2⟩:=r
  cases e
  exact .inl ⟨xs,s.seq h1,by rw [kn h2]⟩
 |dct _ _=>cases e
 |obj _ _ _=>cases e
 |ptr _=>cases e
 |exc _ _ _=>cases e
theorem cM (h:SE X e f)(he:∀whole,isTrue e X.env whole=(do let v <- whole;standAt e.pos;holding [v] (truthy v)):=by intro _;rfl):ST X e (cq f):=
 fun Y0 Y9=>PT.weak (Hz .c3 he) fun σ H Q hq__=>by
  obtain⟨F,τ,c,τ',E,e1,q⟩:=hq__
  obtain⟨⟨x,τ1⟩,e2,e1⟩:=bind_some e1
  obtain⟨z,e4,e1⟩:=bind_some e1
  cases e1
  exact⟨F,τ,x,_,E,e2,fun F1 H1 v1 E1 s1 r1=>⟨c,Kn E1.g.fh r1 e4,q F1 H1 E1 s1⟩⟩
variable {ta tb:FT}{rest:.az}
def ki (ta tb:FT):FT:=fun τ=>(ta τ).bind fun p=>if p.1=true then tb p.2 else some (false,p.2)
def uq (ta tb:FT):FT:=fun τ=>(ta τ).bind fun p=>if p.1=true then some (true,p.2) else tb p.2
def iG (ta:FT):FT:=fun τ=>(ta τ).bind fun p=>some (!p.1,p.2)
theorem iO (h:ST X a ta):ST X (.UnaryOp .Not a pos) (iG ta):=fun Y0 Y9=>PT.weak (MD .c3) fun σ H Q hq__=>by
 obtain⟨F,τ,c,τ',E,e1,q⟩:=hq__
 obtain⟨⟨x,τ1⟩,e2,e1⟩:=bind_some e1
 cases e1
 exact⟨F,τ,x,_,E,e2,fun F1 H1 E1 s1=>q F1 H1 E1 s1⟩
theorem jg (h:ST X a ta):SW X (.BoolOp .And [a] pos) ta:=fun Y0 Y9=>JZ .c3
theorem kS (h:ST X a ta):SW X (.BoolOp .Or [a] pos) ta:=fun Y0 Y9=>MF .c3
theorem mw (ha:ST X a ta)(hb:SW X (.BoolOp .And (b::rest) pos) tb):SW X .e2 (ki ta tb):=fun Y0 Y9=>PW.weak (ME .b3 .dL) fun σ H Q hq__=>by
 obtain⟨F,τ,c,τ',E,e1,q⟩:=hq__
 obtain⟨⟨x,τ1⟩,e2,e1⟩:=bind_some e1
 refine⟨F,τ,x,τ1,E,e2,fun F1 H1 E1 s1=>?_⟩
 dsimp only at e1
 split at e1
 ·next h=>rw [if_pos h];exact⟨F1,τ1,c,τ',E1,e1,fun F2 H2 E2 s2=>q F2 H2 E2 .bq⟩
 ·next h=>rw [if_neg h];cases e1;exact q F1 H1 E1 s1
theorem jS (ha:ST X a ta)(hb:SW X (.BoolOp .Or (b::rest) pos) tb):SW X (.BoolOp .Or (a::b::rest) pos) (uq ta tb):=fun Y0 Y9=>PW.weak (OV .b3 .dL) fun σ H Q hq__=>by
 obtain⟨F,τ,c,τ',E,e1,q⟩:=hq__
 obtain⟨⟨x,τ1⟩,e2,e1⟩:=bind_some e1
 refine⟨F,τ,x,τ1,E,e2,fun F1 H1 E1 s1=>?_⟩
 dsimp only at e1
 split at e1
 ·next h=>rw [if_pos h];cases e1;exact q F1 H1 E1 s1
 ·next h=>rw [if_neg h];exact⟨F1,τ1,c,τ',E1,e1,fun F2 H2 E2 s2=>q F2 H2 E2 .bq⟩
theorem SW.st (h:SW X e ta):ST X e ta:=fun Y0 Y9=>(h Y0 Y9).pt
def fy (fa fb:FE):FE:=fun τ=>(fa τ).bind fun p=>match p.1 with | .bl true=>fb p.2 | .bl false=>some (.bl false,p.2) | _=>none
def QH (fa fb:FE):FE:=fun τ=>(fa τ).bind fun p=>match p.1 with | .bl true=>some (.bl true,p.2) | .bl false=>fb p.2 | _=>none
def IY:T->Option T
 | .bl c=>some (.bl (!c))
 |_=>none
theorem jD {op}(h:SE X a fa):SE X (.BoolOp op [a] pos) fa:=fun Y0 Y9=>Ml .c3
theorem gj (ha:SE X a fa)(hb:SE X (.BoolOp .And (b::rest) pos) fb):SE X .e2 (fy fa fb):=fun Y0 Y9=>PE.weak (Me .b3 .dL) fun σ H Q hq__=>by
 obtain⟨F,τ,c,τ',E,e1,q⟩:=hq__
 obtain⟨⟨x,τ1⟩,e2,e1⟩:=bind_some e1
 dsimp only at e1
 refine⟨F,τ,x,τ1,E,e2,fun F1 H1 v E1 s1 r1=>?_⟩
 split at e1
 ·cases r1;exact⟨true,rfl,by rw [if_pos rfl];exact⟨F1,τ1,c,τ',E1,e1,fun F2 H2 v2 E2 s2=>q F2 H2 v2 E2 .bq⟩⟩
 ·cases r1;cases e1;exact⟨false,rfl,by rw [if_neg .f];exact q F1 H1 _ E1 s1 rfl⟩
 ·cases e1
theorem MK (ha:SE X a fa):SE X (.UnaryOp .Not a pos) (ux IY fa):=fun Y0 Y9=>PE.weak (Mj .b3) fun σ H Q hq__=>by
 obtain⟨F,τ,c,τ',E,e1,q⟩:=hq__
 obtain⟨⟨x,τ1⟩,e2,e1⟩:=bind_some e1
 obtain⟨z,e4,e1⟩:=bind_some e1
 cases e1
 refine⟨F,τ,x,_,E,e2,fun F1 H1 v E1 s1 r1=>?_⟩
 dsimp only at e4
 unfold IY at e4
 split at e4
 ·cases r1;cases e4;exact⟨_,rfl,q F1 H1 _ E1 s1 rfl⟩
 ·cases e4
def vH (t:FT)(fa fb:FE):FE:=fun τ=>(t τ).bind fun p=>if p.1=true then fa p.2 else fb p.2
theorem tP {c:Expr}(hc:ST X c ta)(ha:SE X a fa)(hb:SE X b fb):SE X (.IfExp c a b pos) (vH ta fa fb):=fun Y0 Y9=>PE.weak (Hl (hc Y0 Y9) .b3 .dL) fun σ H Q hq__=>by
 obtain⟨F,τ,c,τ',E,e1,q⟩:=hq__
 obtain⟨⟨x,τ1⟩,e2,e1⟩:=bind_some e1
 refine⟨F,τ,x,τ1,E,e2,fun F1 H1 E1 s1=>?_⟩
 dsimp only at e1
 split at e1
 ·next h=>rw [if_pos h];exact⟨F1,τ1,c,τ',E1,e1,fun F2 H2 v2 E2 s2=>q F2 H2 v2 E2 .bq⟩
 ·next h=>rw [if_neg h];exact⟨F1,τ1,c,τ',E1,e1,fun F2 H2 v2 E2 s2=>q F2 H2 v2 E2 .bq⟩
variable {es:.az}{g:FA}
def au:FA:=fun τ=>some ([],τ)
def ag (f:FE)(g:FA):FA:=fun τ=>(f τ).bind fun p=>(g p.2).bind fun q=>some (p.1::q.1,q.2)
theorem ak:SA X [] au:=fun Y0 Y9=>PA.weak tj fun σ H Q hq__=>by
 obtain⟨F,τ,c,τ',E,e1,q⟩:=hq__
 cases e1
 exact q F H [] E .en rfl
theorem af (ha:SE X e f)(hr:SA X es g)(hs:starEach (e::es) X.env=(.i e)::starEach es X.env:=by rfl):SA X (e::es) (ag f g):=fun Y0 Y9=>PA.weak (kr .b3 (hr Y0 Y9) hs) fun σ H Q hq__=>by
 obtain⟨F,τ,c,τ',E,e1,q⟩:=hq__
 obtain⟨⟨x,τ1⟩,e2,e1⟩:=bind_some e1
 obtain⟨⟨y,τ2⟩,e3,e1⟩:=bind_some e1
 cases e1
 exact⟨F,τ,x,τ1,E,e2,fun F1 H1 v E1 s1 r1=>⟨F1,τ1,y,_,E1,e3,fun F2 H2 vs E2 s2 r2=>q F2 H2 _ E2 .bq ⟨v,vs,rfl,Rep.mono s2 r1,r2⟩⟩⟩
def cZ (g:FA):FE:=fun τ=>(g τ).bind fun p=>if p.1.length≤sizeLine then some (.tup p.1,p.2) else none
def eR (g:FA):FE:=fun τ=>(g τ).bind fun p=>if p.1.length≤sizeLine then some (.lst p.1,p.2) else none
theorem dN {k}(h:SA X es g):SE X (.Tuple es k pos) (cZ g):=fun Y0 Y9=>PE.weak (Mo .c3) fun σ H Q hq__=>by
 obtain⟨F,τ,c,τ',E,e1,q⟩:=hq__
 obtain⟨⟨x,τ1⟩,e2,e1⟩:=bind_some e1
 dsimp only at e1
 split at e1
 ·next hl =>
  cases e1
  refine⟨F,τ,x,_,E,e2,fun F1 H1 vs E1 s1 r1=>⟨by rw [r1.length];exact hl,fun p hp=>?_⟩⟩
  have gr:=bw.new (.tup vs) E1.g.fh hp
  exact q _ _ _ (E1.grow gr) (s1.trans gr.sF) ⟨p,vs,rfl,mM.of aQ,aT.mono gr.sF r1⟩
 ·cases e1
theorem hW (h:SA X es g):SE X (.List es pos) (eR g):=fun Y0 Y9=>PE.weak (Hm .c3) fun σ H Q hq__=>by
 obtain⟨F,τ,c,τ',E,e1,q⟩:=hq__
 obtain⟨⟨x,τ1⟩,e2,e1⟩:=bind_some e1
 dsimp only at e1
 split at e1
 ·next hl =>
  cases e1
  refine⟨F,τ,x,_,E,e2,fun F1 H1 vs E1 s1 r1=>⟨by rw [r1.length];exact hl,fun p hp=>?_⟩⟩
  have gr:=bw.new .bC E1.g.fh hp
  exact q _ _ _ (E1.grow gr) (s1.trans gr.sF) ⟨p,vs,rfl,aQ,aT.mono gr.sF r1⟩
 ·cases e1
def ao (d:.R)(g:FA):FE:=fun τ=>(g τ).bind fun p=>(d p.1).bind fun t=>some (t,p.2)
theorem vz {d:.R}{Y0 Y9:Hp}{σ:L2.St}{H:Hp}{Q:VK}(h:tE X.K Y0 Y9 (ao d g) σ H Q):tA X.K Y0 Y9 g σ H fun vs H1=>Qd X.K d vs H1 Q:=by
 obtain⟨F,τ,c,τ',E,e1,q⟩:=h
 obtain⟨⟨x,τ1⟩,e2,e1⟩:=bind_some e1
 obtain⟨z,e4,e1⟩:=bind_some e1
 cases e1
 exact⟨F,τ,x,_,E,e2,fun F1 H1 vs E1 s1 r1=>⟨F1,x,c,E1.g.fh,r1,e4,fun F3 H3 v3 g3 r3=>q F3 H3 v3 (E1.grow g3) (s1.trans g3.sF) r3⟩⟩
theorem aY {d:.R}{id:String}{x:Str}{p:Pos}(hc:gy X .d0 d)(hg:Gl X x)(hm:X.mg x=none)(hv:bootBuiltins x=some .d0)(ha:SA X (e::es) g)(hn:x≠"__name__" := by decide)(hdb:.L=false:=by decide)
  (he:starEach (e::es) X.env=(.i e)::starEach es X.env:=by rfl) (hpl:(backTo pos .a6).any (·.1)=false:=by rfl):SE X .aV (ao d g):=
 fun Y0 Y9=>PE.weak (Ae hc hg hm hv .b3 hn hdb he hpl) fun _ _ _=>vz
theorem bQ {d:.R}{id:String}{x:Str}{p:Pos}(hc:gy X (.type id) d)(hg:Gl X x)(hm:X.mg x=none)(hv:bootBuiltins x=some (.type id))(ha:SA X (e::es) g)(hn:x≠"__name__" := by decide)(hdb:.L=false:=by decide)
  (he:starEach (e::es) X.env=(.i e)::starEach es X.env:=by rfl) (hpl:(backTo pos .a6).any (·.1)=false:=by rfl):SE X .aV (ao d g):=
 fun Y0 Y9=>PE.weak (EC hc hg hm hv .b3 hn hdb he hpl) fun _ _ _=>vz
end
def spT (K:.l)(n:Nat)(d:.R):Sp:=fun vs H Q _=>vs.length=n/\Qd K d vs H Q
structure Def (P:.am)(w:World)(K:.l)(mg:.G)(base:Heap)(k:Nat)(x:Str)(n:Nat)(d:.R):Prop where
 ex:∃f fd ps,iz P w K mg base ur k f fd ps (spT K n d)/\Binds K fd ps []/\PySem.W.keepIn K (.c f)=true/\mg x=some (.c f)/\ps.length=n
theorem Def.imp {P:.am}{w:World}{K:.l}{mg:.G}{base:Heap}{k n:Nat}{x:Str}{d d':.R}(D:Def P w K mg base k x n d)(h:∀ts t,d' ts=some t->d ts=some t):Def P w K mg base k x n d':=by
 obtain⟨f,fd,ps,F,r⟩:=D.ex
 exact⟨f,fd,ps,F.imp fun vs H Q E ⟨l,F,ts,t,a,b,c,q⟩=>⟨l,F,ts,t,a,b,h _ _ c,q⟩,r⟩
theorem Def.mono {P:.am}{w:World}{K:.l}{mg:.G}{base:Heap}{j k n:Nat}{x:Str}{d:.R}(D:Def P w K mg base j x n d)(h:j≤k):Def P w K mg base k x n d:=by
 obtain⟨f,fd,ps,F,r⟩:=D.ex
 exact⟨f,fd,ps,F.mono h,r⟩
theorem Def.zero {P:.am}{w:World}{K:.l}{mg:.G}{base:Heap}{x qual:Str}{st:Stmt}{f:Addr}{fd:.e5}{ps:.Y}(F:.du)(hb:Binds K fd ps [])(hm:mg x=some (.c f)):Def P w K mg base 0 x ps.length (fun _=>none):=
 ⟨f,fd,ps,⟨fun vs H Q E h=>h.1,fun A outer s H args us vs Q E _ _ _ _ h=>by obtain⟨_,F,ts,t,_,_,e,_⟩:=h;cases e⟩,hb,F.kp,hm,rfl⟩
section
variable {X:Cx}{e:Expr}{es:.az}{pos:Pos}{g:FA}
theorem aL {k n:Nat}{x:Str}{p:Pos}{d:.R}(D:Def X.prog X.w X.K X.mg X.base k x n d)(hr:eN k X.A)(hg:Gl X x)(ha:SA X (e::es) g)(hl:∀τ ts τ',g τ=some (ts,τ')->ts.length=n)(hdb:.L=false:=by decide)
  (he:starEach (e::es) X.env=(.i e)::starEach es X.env:=by rfl) (hpl:(backTo pos .a6).any (·.1)=false:=by rfl):SE X .aV (ao d g):=by
 obtain⟨f,fd,ps,F,hb,hk,hm,hn⟩:=D.ex
 intro Y0 Y9
 refine PE.weak (Dd (E:=E0) (CX:=ur) F hr hg hm hk hb .nil Ad .b3 hdb he hpl) fun σ H Q h=>?_
 obtain⟨F,τ,c,τ',E,e1,q⟩:=h
 obtain⟨⟨z,τ1⟩,e2,e1⟩:=bind_some e1
 have hz:=hl _ _ _ e2
 obtain⟨u,e4,e1⟩:=bind_some e1
 cases e1
 refine⟨F,τ,z,_,E,e2,fun F1 H1 vs E1 s1 r1=>⟨by rw [zax,r1.length];exact hz,F1,z,c,E1.g.fh,by rw [zax];exact r1,e4,fun F3 H3 v3 g3 r3=>q F3 H3 v3 (E1.grow g3) (s1.trans g3.sF) r3⟩⟩
theorem aB:∀τ ts τ',au τ=some (ts,τ')->ts.length=0:=fun _ _ _ h=>by cases h;rfl
theorem ah {f:FE}{g:FA}{n:Nat}(h:∀τ ts τ',g τ=some (ts,τ')->ts.length=n):∀τ ts τ',ag f g τ=some (ts,τ')->ts.length=n+1:=fun τ ts τ' e=>by
 obtain⟨⟨x,τ1⟩,e2,e1⟩:=bind_some e
 obtain⟨⟨y,τ2⟩,e3,e1⟩:=bind_some e1
 cases e1
 simp [h _ _ _ e3]
end
section
variable {X:Cx}{e a b:Expr}{pos:Pos}{f fa fb:FE}{ga:FA}{es:.az}
def gD:FS:=fun _=>none
def bH:FS:=fun τ=>some (.nx τ)
def bj (f:FE):FS:=fun τ=>(f τ).bind fun p=>some (.rt p.1)
def vG (f:FE):FS:=fun τ=>(f τ).bind fun p=>some (.nx p.2)
def bZ (c:FT)(t u:FS):FS:=fun τ=>(c τ).bind fun p=>if p.1=true then t p.2 else u p.2
def aF (t u:FS):FS:=fun τ=>(t τ).bind fun r=>match r with | .nx τ'=>u τ' | r=>some r
theorem pq.mono {K:.l}{Y0 Y9 F F':Hp}{D:Ends}{r:R}(s:aV F F')(h:pq K Y0 Y9 F D r):pq K Y0 Y9 F' D r:=by
 cases r with
 |nx τ=>exact fun F1 H1 σ1 E1 s1=>h F1 H1 σ1 E1 (s.trans s1)
 |rt t=>exact h
 |bk τ=>exact fun F1 H1 σ1 E1 s1=>h F1 H1 σ1 E1 (s.trans s1)
 |ct τ=>exact fun F1 H1 σ1 E1 s1=>h F1 H1 σ1 E1 (s.trans s1)
theorem gW {st:Stmt}:SS X st gD:=fun Y0 Y9=>PS.weak Hv fun D σ H ⟨F,τ,r,E,e1,q⟩=>by cases e1
theorem aP (h:SE X e f):SS X (.Return (some e) pos) (bj f):=fun Y0 Y9=>PS.weak (Hw .c3) fun D σ H hq__=>by
 obtain⟨F,τ,r,E,e1,q⟩:=hq__
 obtain⟨⟨x,τ1⟩,e2,e1⟩:=bind_some e1
 cases e1
 exact⟨F,τ,x,τ1,E,e2,fun F' H' v E' s' r'=>q F' H' v E'.g r'⟩
theorem DA (h:SE X e f)(hs:swapsWith e none pos.line X.env=pure false:=by rfl):SS X (.Expr e pos) (vG f):=fun Y0 Y9=>PS.weak (ya .c3 hs) fun D σ H hq__=>by
 obtain⟨F,τ,r,E,e1,q⟩:=hq__
 obtain⟨⟨x,τ1⟩,e2,e1⟩:=bind_some e1
 cases e1
 exact⟨F,τ,x,τ1,E,e2,fun F' H' v E' s' r'=>q F' H' σ E' s'⟩
theorem cz (hc:ST X c tc)(ha:AV X ss t)(hb:AV X us u):SS X (.If c ss us pos) (bZ tc t u):=fun Y0 Y9=>PS.weak (Hu (hc Y0 Y9) .b3 .dL) fun D σ H hq__=>by
 obtain⟨F,τ,r,E,e1,q⟩:=hq__
 obtain⟨⟨x,τ1⟩,e2,e1⟩:=bind_some e1
 refine⟨F,τ,x,τ1,E,e2,fun F' H' E' s'=>?_⟩
 dsimp only at e1
 split at e1
 ·next h=>rw [if_pos h];exact⟨F',τ1,r,E',e1,q.mono s'⟩
 ·next h=>rw [if_neg h];exact⟨F',τ1,r,E',e1,q.mono s'⟩
theorem bE:AV X [] bH:=fun Y0 Y9=>mK.weak qU fun D σ H hq__=>by
 obtain⟨F,τ,r,E,e1,q⟩:=hq__
 cases e1
 exact q F H σ E .en
theorem aq {st:Stmt}{rest:.bG}{t u:FS}(h1:SS X st t)(h2:AV X rest u):AV X (st::rest) (aF t u):=fun Y0 Y9=>mK.weak (jQ (h1 Y0 Y9) (h2 Y0 Y9)) fun D σ H hq__=>by
 obtain⟨F,τ,r,E,e1,q⟩:=hq__
 obtain⟨x,e2,e1⟩:=bind_some e1
 refine⟨F,τ,x,E,e2,?_⟩
 cases x with
 |nx τ1=>exact fun F1 H1 σ1 E1 s1=>⟨F1,τ1,r,E1,e1,q.mono s1⟩
 |rt t=>cases e1;exact q
 |bk t=>cases e1;exact q
 |ct t=>cases e1;exact q
theorem aw {st:Stmt}{t:FS}(h1:SS X st t):AV X [st] t:=fun Y0 Y9=>yb (h1 Y0 Y9)
def bA (i:Nat)(f:FE):FS:=fun τ=>(f τ).bind fun p=>some (.nx (p.2.set i ('0' p.1)))
def bX (i:Nat)(g:FA):FS:=fun τ=>(g τ).bind fun p=>if p.1.length≤sizeLine then some (.nx (p.2.set i (some (.own p.1)))) else none
theorem bu (i:Nat)(hN:X.N.Nodup)(hi:X.N[i]? = some x)(hx:.e9)(he:SE X e f)(hs:swapsWith e (.Y x pos') pos.line X.env=pure false:=by rfl)
  (hf:X.fn x=true\/X.env.scope.names.lookup x=some .local:=by first | exact .inl rfl | exact .inr rfl | assumption):SS X (.Assign [.Name x pos'] e pos) (bA i f):=fun Y0 Y9=>PS.weak (BO hN hi hx .fy hs hf) fun D σ H hq__=>by
 obtain⟨F,τ,r,E,e1,q⟩:=hq__
 obtain⟨⟨y,τ1⟩,e2,e1⟩:=bind_some e1
 cases e1
 exact⟨F,τ,y,τ1,E,e2,fun F' H' v E' s' r'=>q F' H' _ (E'.set r') s'⟩
theorem fZ (i:Nat)(hN:X.N.Nodup)(hi:X.N[i]? = some x)(hx:.e9)(he:SA X es ga)(hs:swapsWith (.List es p2) (.Y x pos') pos.line X.env=pure false:=by rfl)
  (hf:X.fn x=true\/X.env.scope.names.lookup x=some .local:=by first | exact .inl rfl | exact .inr rfl | assumption):SS X (.Assign [.Name x pos'] (.List es p2) pos) (bX i ga):=fun Y0 Y9=>PS.weak (BO hN hi hx (Hm .fy) hs hf) fun D σ H hq__=>by
 obtain⟨F,τ,r,E,e1,q⟩:=hq__
 obtain⟨⟨y,τ1⟩,e2,e1⟩:=bind_some e1
 dsimp only at e1
 split at e1
 ·next hl =>
  cases e1
  exact⟨F,τ,y,τ1,E,e2,fun F' H' vs E' s' r'=>⟨by rw [r'.length];exact hl,fun p hp=>q F' _ _ (E'.setOwn hp r') s'⟩⟩
 ·cases e1
def tG (K:.l)(Y0 Y9:Hp)(fg:FG):TG:=fun v σ H Q=>∃F τ t τ',aJ K Y0 Y9 F H σ τ/\Rep K F t v/\fg t τ=some τ'/\∀F' H' σ',aJ K Y0 Y9 F' H' σ' τ'->aV F F'->Q σ' H'
def Sv (K:.l)(Y0 Y9:Hp)(fg:.bF):Im:=fun vs σ H Q=>∃F τ ts τ',aJ K Y0 Y9 F H σ τ/\aT K F ts vs/\fg ts τ=some τ'/\∀F' H' σ',aJ K Y0 Y9 F' H' σ' τ'->aV F F'->Q σ' H'
def SG (X:Cx)(tg:Expr)(fg:FG):Prop:=∀Y0 Y9,PG X tg (tG X.K Y0 Y9 fg)
def Ld (X:Cx)(tg:.az)(fg:.bF):Prop:=∀Y0 Y9,M8 X tg (Sv X.K Y0 Y9 fg)
def ai (i:Nat):FG:=fun t τ=>some (τ.set i (.y t))
def bG:List T->aD->Option aD
 |[],τ=>some τ
 |_::_,_=>none
def ay (g:FG)(gs:.bF):List T->aD->Option aD
 |[],_=>none
 |t::ts,τ=>(g t τ).bind fun τ1=>gs ts τ1
def bK (gs:.bF):FG:=fun t τ=>match t with
 | .tup ts=>gs ts τ
 |_=>none
theorem aG (i:Nat)(hN:X.N.Nodup)(hi:X.N[i]? = some x)(hx:.e9)(hf:X.fn x=true\/X.env.scope.names.lookup x=some .local:=by first | exact .inl rfl | exact .inr rfl | assumption):SG X .cC (ai i):=
 fun Y0 Y9 pins s σ H v u Q I r h=>JS hN hi hx hf pins s σ H v u Q I r (by
  obtain⟨F,τ,t,τ',E,rt,e1,q⟩:=h
  cases e1
  exact q F H _ (E.set rt) .en)
theorem cO:Ld X [] bG:=fun Y0 Y9 pins s σ H vs us Q I r h=>JT pins s σ H vs us Q I r (by
 obtain⟨F,τ,ts,τ',E,rt,e1,q⟩:=h
 cases ts with
 |nil=>cases e1;cases rt;exact⟨rfl,q F H σ E .en⟩
 | cons t ts=>cases e1)
theorem aU (h1:SG X e g)(h2:Ld X es gs)(hs:(assignEach (e::es) X.env).map (·.2)=assign e X.env::(assignEach es X.env).map (·.2):=by rfl):Ld X (e::es) (ay g gs):=
 fun Y0 Y9 pins s σ H vs us Q I r h=>Hq (h1 Y0 Y9) (h2 Y0 Y9) hs pins s σ H vs us Q I r (by
  obtain⟨F,τ,ts,τ',E,rt,e1,q⟩:=h
  cases ts with
  |nil=>cases e1
  |cons t ts =>
   obtain⟨v,rr,rfl,r1,r2⟩:=rt
   obtain⟨τ1,e2,e1⟩:=bind_some e1
   exact⟨v,rr,rfl,F,τ,t,τ1,E,r1,e2,fun F' H' σ' E' s'=>⟨F',τ1,ts,τ',E',aT.mono s' r2,e1,fun F2 H2 σ2 E2 s2=>q F2 H2 σ2 E2 (s'.trans s2)⟩⟩)
theorem dX:∀ts τ τ',bG ts τ=some τ'->ts.length=0:=fun ts τ τ' h=>by cases ts<;>first | rfl | cases h
theorem bh {gs:.bF}{n:Nat}(h:∀ts τ τ',gs ts τ=some τ'->ts.length=n):∀ts τ τ',ay g gs ts τ=some τ'->ts.length=n+1:=fun ts τ τ' e=>by
 cases ts with
 |nil=>cases e
 |cons t ts =>
  obtain⟨τ1,e2,e1⟩:=bind_some e
  simp [h _ _ _ e1]
theorem eA {k:Nat}{n:Nat}(hc:.bL)(h:Ld X es gs)(hl:∀ts τ τ',gs ts τ=some τ'->ts.length=n)
  (hn:(assignEach es X.env).length=n:=by rfl) (hst:(assignEach es X.env).findIdx? (·.1)=none:=by rfl):SG X (.Tuple es k pos) (bK gs):=
 fun Y0 Y9 pins s σ H v u Q I r h'=>Mr hc .c3 hn hst pins s σ H v u Q I r (by
  obtain⟨F,τ,t,τ',E,rt,e1,q⟩:=h'
  unfold bK at e1
  split at e1
  ·next ts =>
   obtain⟨p,xs,rfl,h1,h2⟩:=rt
   exact⟨p,xs,rfl,cm E.g.fh h1,by rw [h2.length];exact hl _ _ _ e1,F,τ,ts,τ',E,h2,e1,q⟩
  ·cases e1)
def kj (f:FE)(g:FG):FS:=fun τ=>(f τ).bind fun p=>(g p.1 p.2).bind fun τ'=>some (.nx τ')
theorem nW (he:SE X e f)(hg:SG X tg g)(hs:swapsWithSole [tg] e pos.line X.env=pure false:=by rfl)(hw:swappedStores [tg] e X.env=pure none:=by rfl)
  (h1:(assignEach [tg] X.env).map (·.2)=[assign tg X.env]:=by rfl):SS X (.Assign [tg] e pos) (kj f g):=fun Y0 Y9=>PS.weak (Mw .fy (hg Y0 Y9) hs hw h1) fun D σ H hq__=>by
 obtain⟨F,τ,r,E,e1,q⟩:=hq__
 obtain⟨⟨y,τ1⟩,e2,e1⟩:=bind_some e1
 obtain⟨τ2,e3,e1⟩:=bind_some e1
 cases e1
 exact⟨F,τ,y,τ1,E,e2,fun F' H' v E' s' r'=>⟨F',τ1,y,τ2,E',r',e3,fun F2 H2 σ2 E2 s2=>q F2 H2 σ2 E2 (s'.trans s2)⟩⟩
def uw (i j:Nat)(g:FA):FS:=fun τ=>(g τ).bind fun p=>match p.1 with
 |[v,w]=>some (.nx ((p.2.set i (.y v)).set j (.y w)))
 |_=>none
theorem tV {i j:Nat}{kt k2 pt2}(hc:.bL)(hN:X.N.Nodup)(hi:X.N[i]? = some x)(hj:X.N[j]? = some y)(hij:i≠j)
  (hx:X.env.scope.names.lookup x=some .local) (hy:.cD) (ha:SA X [a,b] ga)
  (hw:swappedStores .bI .eL X.env=pure (some [x,y]))
  (hs:swapsWithSole .bI .eL pos.line X.env=pure false:=by rfl):
  SS X (.Assign .bI .eL pos) (uw i j ga):=fun Y0 Y9=>PS.weak (Mz hc hN hi hj hij hx hy .b3 hw hs) fun D σ H hq__=>by
 obtain⟨F,τ,r,E,e1,q⟩:=hq__
 obtain⟨⟨ts,τ1⟩,e2,e1⟩:=bind_some e1
 dsimp only at e1
 split at e1
 ·next v w =>
  cases e1
  refine⟨F,τ,_,τ1,E,e2,fun F' H' vs E' s' r'=>?_⟩
  obtain⟨v1,r1,rfl,q1,v2,r2,rfl,q2,rfl⟩:=r'
  exact⟨v1,v2,rfl,q F' H' _ ((E'.set q1).set q2) s'⟩
 ·cases e1
structure Walks (K:.l)(F:Hp)(ts:List T)(J:It):Prop where
 go:∀(i:Nat) t F1 H1,ts[i]? = some t->aV F F1->aV F1 H1->J.go i H1
 yld:∀(i:Nat) t F1 H1 x H2,ts[i]? = some t->aV F F1->aV F1 H1->J.yld i H1 x H2->∃F2,bw F1 H1 F2 H2/\Rep K F2 t x
 stop:∀F1 H1,aV F F1->aV F1 H1->J.stop ts.length H1
def tI (K:.l)(Y0 Y9:Hp)(fi:FA):TI:=fun σ H R=>∃F τ ts τ',aJ K Y0 Y9 F H σ τ/\fi τ=some (ts,τ')/\∀F' H' J,aJ K Y0 Y9 F' H' σ τ'->aV F F'->Walks K F' ts J->R J H'
def SI (X:Cx)(tg iter:Expr)(fi:FA):Prop:=∀Y0 Y9,PI X tg iter (tI X.K Y0 Y9 fi)
def cQ (fg:FG)(fb:FS):List T->FS
 |[],τ=>some (.nx τ)
 |t::ts,τ=>(fg t τ).bind fun τ1=>(fb τ1).bind fun r=>match r with
  | .nx τ2=>cQ fg fb ts τ2
  | .ct τ2=>cQ fg fb ts τ2
  | .bk τ2=>some (.nx τ2)
  | .rt v=>some (.rt v)
def fz (fi:FA)(fg:FG)(fb:FS):FS:=fun τ=>(fi τ).bind fun p=>cQ fg fb p.1 p.2
theorem fW {tg iter:Expr}{body:.bG}{fi:FA}{fg:FG}{fb:FS}(hp:.ev)(hc:.bL)(hi:.dH)(hg:SG X tg fg)(hb:AV X body fb)
  (hs:∀x,foldedSetIterable iter X.env x=pure x:=by intro _;rfl):SS X (.For tg iter body [] pos) (fz fi fg fb):=fun Y0 Y9=>PS.weak (Ht hp hc (hi Y0 Y9) (hg Y0 Y9) .dL hs) fun D σ H hq__=>by
 obtain⟨F,τ,r,E,e1,q⟩:=hq__
 obtain⟨⟨ts,τ1⟩,e2,e1⟩:=bind_some e1
 refine⟨F,τ,ts,τ1,E,e2,fun F' H' J E' s' W=>?_⟩
 refine⟨fun i m σ H=>m=ts.length-i/\i≤ts.length/\∃F1 τ1,aJ X.K Y0 Y9 F1 H σ τ1/\aV F' F1/\cQ fg fb (ts.drop i) τ1=some r,⟨_,rfl,za6 _,F',τ1,E',aV.refl _,e1⟩,?_⟩
 rintro i m σ1 H1 ⟨rfl,hi,F1,τ2,E1,s1,e3⟩
 by_cases hlt:i<ts.length
 ·have hd:ts.drop i=ts[i]::ts.drop (i+1):=zbc hlt
  have hg:ts[i]? = some ts[i]:=zav hlt
  rw [hd] at e3
  obtain⟨τ3,e4,e3⟩:=bind_some e3
  obtain⟨r',e5,e3⟩:=bind_some e3
  refine .inr ⟨W.go i _ F1 H1 hg s1 E1.g.fh,fun σ H=>∃F1 τ1,aJ X.K Y0 Y9 F1 H σ τ1/\aV F' F1/\cQ fg fb (ts.drop (i+1)) τ1=some r,fun σ' H' n=>⟨_,.e,rfl,hlt,n⟩,fun x H2 y=>?_⟩
  obtain⟨F2,gr,rx⟩:=W.yld i _ F1 H1 x H2 hg s1 E1.g.fh y
  refine⟨F2,τ2,ts[i],τ3,E1.grow gr,rx,e4,fun F3 H3 σ3 E3 s3=>⟨F3,τ3,r',E3,e5,?_⟩⟩
  have s03:aV F' F3:=s1.trans (gr.sF.trans s3)
  cases r' with
  |nx τ4=>exact fun F4 H4 σ4 E4 s4=>⟨F4,τ4,E4,s03.trans s4,e3⟩
  |ct τ4=>exact fun F4 H4 σ4 E4 s4=>⟨F4,τ4,E4,s03.trans s4,e3⟩
  |bk τ4=>cases e3;exact fun F4 H4 σ4 E4 s4=>q F4 H4 σ4 E4 (s'.trans (s03.trans s4))
  |rt v=>cases e3;exact q
 ·have he:i=ts.length:=.e
  subst he
  rw [zbq] at e3
  cases e3
  exact .inl ⟨W.stop F1 H1 s1 E1.g.fh,q F1 H1 σ1 E1 (s'.trans s1)⟩
def Bh (f:FE):FA:=fun τ=>(f τ).bind fun p=>match p.1 with | .lst ts=>some (ts,p.2) | .scr ts=>some (ts,p.2) | _=>none
def FQ (f:FE):FA:=fun τ=>(f τ).bind fun p=>match p.1 with | .tup ts=>some (ts,p.2) | _=>none
theorem ug {K:.l}{F:Hp}{p:Addr}{xs:List V}{ts:List T}(h1:gR K F p xs)(h2:aT K F ts xs):Walks K F ts (Qt K p):=by
 refine⟨fun i t F1 H1 e s1 s2=>?_,fun i t F1 H1 x H2 e s1 s2 y=>?_,fun F1 H1 s1 s2=>⟨xs,(s1.trans s2).seq h1,by rw [h2.length];exact zak _⟩⟩
 ·obtain⟨v,g1,_⟩:=h2.get e
  exact⟨xs,v,(s1.trans s2).seq h1,g1⟩
 ·obtain⟨rfl,y⟩:=y
  obtain⟨v,g1,g2⟩:=h2.get e
  have:=y xs ((s1.trans s2).seq h1)
  rw [g1] at this;cases this
  exact⟨F1,bw.refl s2,Rep.mono s1 g2⟩
theorem ES {K:.l}{F:Hp}{p:Addr}{xs:List V}{ts:List T}(h1:mM K F p xs)(h2:aT K F ts xs):Walks K F ts (Qv K p):=by
 refine⟨fun i t F1 H1 e s1 s2=>?_,fun i t F1 H1 x H2 e s1 s2 y=>?_,fun F1 H1 s1 s2=>⟨xs,cm .bq h1,by rw [h2.length];exact zak _⟩⟩
 ·obtain⟨v,g1,_⟩:=h2.get e
  exact⟨xs,v,cm .bq h1,g1⟩
 ·obtain⟨rfl,y⟩:=y
  obtain⟨v,g1,g2⟩:=h2.get e
  have:=y xs (cm .bq h1)
  rw [g1] at this;cases this
  exact⟨F1,bw.refl s2,Rep.mono s1 g2⟩
theorem PI.weak {t t':TI}(h:PI X tg it t)(i:∀σ H R,t' σ H R->t σ H R):PI X tg it t':=fun pins s σ H R I q=>h pins s σ H R I (i σ H R q)
theorem Du (h:SE X l f):SI X tg l (Bh f):=fun Y0 Y9=>PI.weak (JU .c3) fun σ H R hq__=>by
 obtain⟨F,τ,ts,τ',E,e1,q⟩:=hq__
 obtain⟨⟨x,τ1⟩,e2,e1⟩:=bind_some e1
 dsimp only at e1
 split at e1
 ·cases e1
  refine⟨F,τ,_,τ',E,e2,fun F' H' v E' s' r'=>?_⟩
  obtain⟨p,xs,rfl,h1,h2⟩:=r'
  exact⟨p,rfl,⟨xs,gR.of (E'.g.fh _ _ h1)⟩,q F' H' _ E' s' (ug (gR.of h1) h2)⟩
 ·cases e1
  refine⟨F,τ,_,τ',E,e2,fun F' H' v E' s' r'=>?_⟩
  obtain⟨p,xs,rfl,h1,h2⟩:=r'
  exact⟨p,rfl,⟨xs,E'.g.fh.seq h1⟩,q F' H' _ E' s' (ug h1 h2)⟩
 ·cases e1
theorem MO (h:SE X l f):SI X tg l (FQ f):=fun Y0 Y9=>PI.weak (Mt .c3) fun σ H R hq__=>by
 obtain⟨F,τ,ts,τ',E,e1,q⟩:=hq__
 obtain⟨⟨x,τ1⟩,e2,e1⟩:=bind_some e1
 dsimp only at e1
 split at e1
 ·cases e1
  refine⟨F,τ,_,τ',E,e2,fun F' H' v E' s' r'=>?_⟩
  obtain⟨p,xs,rfl,h1,h2⟩:=r'
  exact⟨p,rfl,⟨xs,cm E'.g.fh h1⟩,q F' H' _ E' s' (ES h1 h2)⟩
 ·cases e1
def upTo (lo:Int):Nat->List T
 |0=>[]
 |n+1=>.int lo::upTo (lo+1) n
theorem jh:∀(n:Nat) (lo:Int),(upTo lo n).length=n
 |0,_=>rfl
 |n+1,lo=>by simp [upTo,jh n]
theorem ue:∀(n:Nat) (lo:Int) (i:Nat),i<n->(upTo lo n)[i]? = some (.j (lo+i))
 |0,_,_,h=>.e
 |n+1,lo,0,_=>by simp [upTo]
 |n+1,lo,i+1,h=>by
  simp only [upTo,List.getElem?_cons_succ]
  rw [ue n (lo+1) i .e]
  congr 2
  push_cast
  omega
def dy (g:FA):FA:=fun τ=>(g τ).bind fun p=>match p.1 with
 |[.int j]=>if -(2^62)≤j/\j<2^62 then some (upTo 0 j.toNat,p.2) else none
 |_=>none
theorem EO {K:.l}{F:Hp}(lo:Int)(n:Nat):Walks K F (upTo lo n) (Py lo n):=by
 have hl:∀{i:Nat} {t:T},(upTo lo n)[i]? = some t->i<n:=fun {i t} e=>by
  have:=(zas.mp e).1
  rwa [jh] at this
 refine⟨fun i t F1 H1 e s1 s2=>hl e,fun i t F1 H1 x H2 e s1 s2 y=>?_,fun F1 H1 s1 s2=>by show n≤_;rw [jh];exact zak _⟩
 obtain⟨rfl,rfl⟩:=y
 rw [ue n lo i (hl e)] at e
 cases e
 exact⟨F1,bw.refl s2,rfl⟩
theorem kQ (hg:Gl X "range")(hm:X.mg "range" = none)(ha:SA X [a] ga)(hs:starEach [a] X.env=[(.i a)]:=by rfl):SI X tg (.Call (.Name "range" p) [a] [] pos) (dy ga):=
 fun Y0 Y9=>PI.weak (ED hg hm .b3 hs) fun σ H R hq__=>by
  obtain⟨F,τ,ts,τ',E,e1,q⟩:=hq__
  obtain⟨⟨x,τ1⟩,e2,e1⟩:=bind_some e1
  dsimp only at e1
  split at e1
  ·split at e1
   ·next hb =>
    cases e1
    refine⟨F,τ,_,τ',E,e2,fun F' H' vs E' s' r'=>?_⟩
    obtain⟨v,r,rfl,q1,rfl⟩:=r'
    cases q1
    exact⟨_,rfl,hb.1,hb.2,q F' H' _ E' s' (EO 0 _)⟩
   ·cases e1
  ·cases e1
def cU (ft:FT)(fb:FS):Nat->FS
 |0,_=>none
 |n+1,τ=>(ft τ).bind fun p=>if p.1=true then (fb p.2).bind fun r=>match r with
  | .nx τ2=>cU ft fb n τ2
  | .ct τ2=>cU ft fb n τ2
  | .bk τ2=>some (.nx τ2)
  | .rt v=>some (.rt v) else some (.nx p.2)
theorem mr (n:Nat){c:Expr}{body:.bG}{ft:FT}{fb:FS}(hp:.ev)(hc:ST X c ft)(hb:AV X body fb):SS X (.While c body [] pos) (cU ft fb n):=fun Y0 Y9=>PS.weak (Hx hp (hc Y0 Y9) .dL) fun D σ H hq__=>by
 obtain⟨F,τ,r,E,e1,q⟩:=hq__
 refine⟨fun m σ H=>∃F1 τ1,aJ X.K Y0 Y9 F1 H σ τ1/\aV F F1/\cU ft fb m τ1=some r,⟨n,F,τ,E,aV.refl _,e1⟩,?_⟩
 rintro m σ1 H1 ⟨F1,τ1,E1,s1,e2⟩
 cases m with
 |zero=>cases e2
 |succ m =>
  obtain⟨⟨x,τ2⟩,e3,e2⟩:=bind_some e2
  refine⟨F1,τ1,x,τ2,E1,e3,fun F2 H2 E2 s2=>?_⟩
  dsimp only at e2
  split at e2
  ·next h =>
   rw [if_pos h]
   obtain⟨r',e4,e2⟩:=bind_some e2
   refine⟨fun σ H=>∃F1 τ1,aJ X.K Y0 Y9 F1 H σ τ1/\aV F F1/\cU ft fb m τ1=some r,fun σ' H' n=>⟨m,zbj m,n⟩,F2,τ2,r',E2,e4,?_⟩
   cases r' with
   |nx τ4=>exact fun F4 H4 σ4 E4 s4=>⟨F4,τ4,E4,(s1.trans s2).trans s4,e2⟩
   |ct τ4=>exact fun F4 H4 σ4 E4 s4=>⟨F4,τ4,E4,(s1.trans s2).trans s4,e2⟩
   |bk τ4=>cases e2;exact fun F4 H4 σ4 E4 s4=>q F4 H4 σ4 E4 ((s1.trans s2).trans s4)
   |rt v=>cases e2;exact q
  ·next h =>
   rw [if_neg h]
   cases e2
   exact q F2 H2 σ1 E2 .bq
def fS (i:Nat)(f:FE):FS:=fun τ=>match τ[i]? with
 |some (some (.own _))=>(f τ).bind fun p=>match p.2[i]? with
  |some (.v ts)=>if ts.length<sizeLine then some (.nx (p.2.set i (.v (ts++[p.1])))) else none
  |_=>none
 |_=>none
end
def cg (m n:Nat)(fb:FS):List T->Option T:=fun ts=>if ts.length=n then (fb .bN).bind fun r=>match r with
 | .rt t=>some t
 | .nx _=>some .non
 |_=>none else none
theorem jK {K:.l}{F H:Hp}{N:.Y}{vs:List V}{ts:List T}(s:aV F H)(r:aT K F ts vs):aJ K F H F H (start N vs) (ts.map .fk++List.replicate (N.length-ts.length) none):=by
 have hl:=r.length
 have key:∀(i:Nat) (sl:Sl),(ts.map .fk++List.replicate (N.length-ts.length) none)[i]? = some (some sl)->∃t,ts[i]? = some t/\sl=.sh t:=fun i sl e=>by
  by_cases h:i<ts.length
  ·rw [List.getElem?_append_left .aC,List.getElem?_map,List.getElem?_eq_getElem h] at e
   simp at e
   exact⟨ts[i],zav h,e.symm⟩
  ·rw [List.getElem?_append_right .j,List.getElem?_replicate] at e
   split at e<;>cases e
 refine⟨bw.refl s,by simp [L2.start,hl],fun i sl e=>?_,fun i j us ws p _ e1 _ _=>?_⟩
 ·obtain⟨t,e1,rfl⟩:=key i sl e
  obtain⟨v,g1,g2⟩:=r.get e1
  refine⟨v,?_,g2⟩
  have hi:i<vs.length:=(zas.mp g1).1
  unfold L2.start
  rw [List.getElem?_append_left .dr,List.getElem?_map,g1]
  rfl
 ·obtain⟨t,_,e⟩:=key i _ e1
  cases e
section
variable {P:.am}{w:World}{K:.l}{mg:.G}{base:Heap}
theorem bP {x qual:Str}{st:Stmt}{f:Addr}{fd:.e5}{N ps:.Y}{k:Nat}{fb:FS}(F:.du)(S:aK N ps (ax st))(hb:Binds K fd ps [])(hm:mg x=some (.c f))
  (h:∀(cdv:Value) (A:Around) (outer:.e4) (s:Shared) (H:Hp) (E:XK),eN k .aK->AV (rS ur P w K mg base N qual (ax st) f cdv A outer s H E).nox (ff st) fb):
  Def P w K mg base (k+1) x ps.length (cg N.length ps.length fb):=by
 refine⟨f,fd,ps,F.ok S (fun vs H Q E z=>z.1) .cG,hb,F.kp,hm,rfl⟩
 obtain⟨hl,F1,ts,t,sm,r,e,q⟩:=z
 unfold cg at e
 split at e
 ·next hn =>
  obtain⟨r',e1,e⟩:=bind_some e
  refine⟨_,h cdv A outer s H E hr F1 H,F1,_,r',?_,e1,?_⟩
  ·have:=jK (N:=N) sm r
   rw [hn] at this
   exact this
  ·cases r' with
   |rt u=>cases e;exact fun F' H' v g r'=>q F' H' v g r'
   |nx τ=>cases e;exact fun F' H' σ' E' s'=>q F' H' .non E'.g rfl
   |bk τ=>cases e
   |ct τ=>cases e
 ·cases e
end
def B:Nat:=2^4000
theorem EY {n:Nat}(h:n<B):n.log2<4000:=by
 rcases Nat.eq_zero_or_pos n with h0 | hp
 ·rw [h0];decide
 ·exact (Nat.log2_lt (zaU hp)).mpr h
theorem Fl {i:Int}(h:i.natAbs<B):Builtin.Int.intBits i≤4000:=by
 unfold Builtin.Int.intBits
 split
 ·omega
 ·have:=EY h
  omega
theorem OF {i j:Int}(hi:i.natAbs<B)(hj:j.natAbs<B):IntMulOk i j:=by
 have h1:=Fl hi
 have h2:=Fl hj
 unfold IntMulOk
 have h3:Builtin.Int.intTooBig (Builtin.Int.intBits i+Builtin.Int.intBits j)=false:=by
  unfold Builtin.Int.intTooBig
  have hb:((bitsLine:Nat):Int)=134217728:=.f
  rw [decide_eq_false]
  show ¬ ((Builtin.Int.intBits i:Int)+(Builtin.Int.intBits j:Int)>((bitsLine:Nat):Int))
  rw [hb]
  omega
 rw [h3]
 simp
section
variable {X:Cx}
def gI (C:Int->Int->Prop)[∀i j,Decidable (C i j)](g:Int->Int->T):T->T->Option T:=fun a b=>match a,b with
 | .int i,.int j=>if C i j then some (g i j) else none
 |_,_=>none
theorem LF {C:Int->Int->Prop}[∀i j,Decidable (C i j)]{i j:Int}:gI C g (.j i) (.j j)=if C i j then some (g i j) else none:=rfl
theorem Ac {C:Int->Int->Prop}[∀i j,Decidable (C i j)]{g:Int->Int->T}(h:pz X f (rI C gv))(hg:∀K F i j,Rep K F (g i j) (gv i j)):lr X f (gI C g):=by
 intro pins s σ H x y v u Q I rx ry ⟨F,a,b,t,sm,ra,rb,e,q⟩
 unfold gI at e
 split at e
 ·cases ra
  cases rb
  split at e
  ·next hc =>
   cases e
   exact h pins s σ H _ _ v u Q I rx ry ⟨_,_,rfl,rfl,hc,q F H _ .ak (hg _ _ _ _)⟩
  ·cases e
 ·cases e
theorem pL {g:Int->Int->T}(h:pz X f (J1 gv))(hg:∀K F i j,Rep K F (g i j) (gv i j)):lr X f (gI (fun _ _=>True) g):=
 Ac (fun pins s σ H x y v u Q I rx ry ⟨i,j,e1,e2,_,q⟩=>h pins s σ H x y v u Q I rx ry ⟨i,j,e1,e2,q⟩) hg
def QL (g g':.cP):T->T->Option T:=fun a b=>match g a b with
 |some t=>some t
 |none=>g' a b
theorem lr.or (h:lr X f g)(h':lr X f g'):lr X f (QL g g'):=by
 intro pins s σ H x y v u Q I rx ry ⟨F,a,b,t,sm,ra,rb,e,q⟩
 unfold QL at e
 split at e
 ·next t' e'=>cases e;exact h pins s σ H x y v u Q I rx ry ⟨F,a,b,_,sm,ra,rb,e',q⟩
 ·exact h' pins s σ H x y v u Q I rx ry ⟨F,a,b,t,sm,ra,rb,e,q⟩
def Ce (i j:Int):Prop:=i.natAbs<B/\j.natAbs<B
instance (i j:Int):Decidable (Ce i j):=inferInstanceAs (Decidable (_/\_))
def vk (i j:Int):Prop:=j≠0/\j.natAbs<B
instance (i j:Int):Decidable (vk i j):=inferInstanceAs (Decidable (_/\_))
def Pw (i j:Int):Prop:=j≠0
instance (i j:Int):Decidable (Pw i j):=inferInstanceAs (Decidable (_≠_))
instance (i j:Int):Decidable (Iv i j):=inferInstanceAs (Decidable (_/\_/\_))
noncomputable abbrev lJ:=gI (fun _ _=>True) fun i j=>.int (i-j)
noncomputable abbrev cG:=gI Ce fun i j=>.int (i*j)
noncomputable abbrev eO:=gI vk fun i j=>.int (i.fdiv j)
noncomputable abbrev dM:=gI Pw fun i j=>.int (i.fmod j)
noncomputable abbrev uA:=gI Iv fun i j=>.int (i^j.toNat)
noncomputable abbrev Gm:=gI (fun _ _=>True) fun i j=>.bl (decide (i<j))
noncomputable abbrev uz:=gI (fun _ _=>True) fun i j=>.bl (decide (i≤j))
noncomputable abbrev Bm:=gI (fun _ _=>True) fun i j=>.bl (decide (j<i))
noncomputable abbrev Og:=gI (fun _ _=>True) fun i j=>.bl (decide (j≤i))
theorem lT:lr X (binaryOp .Sub) lJ:=pL Ma fun _ _ _ _=>rfl
theorem dr:lr X (binaryOp .Mult) cG:=Ac (C:=Ce) (gv:=fun i j=>.int (i*j)) (Qa fun _ _ _ _ _ _ _ hc q=>mul_int q (OF hc.1 hc.2)) fun _ _ _ _=>rfl
theorem dY:lr X (binaryOp .FloorDiv) eO:=Ac (C:=vk) (gv:=fun i j=>.int (i.fdiv j)) (Qa fun _ _ _ _ _ _ _ hc q=>floordiv_int hc.1 q (.inl (PyProof.noPylong_of_log2 (zaR (EY hc.2) (by decide:4000<9000))))) fun _ _ _ _=>rfl
theorem fw:lr X (binaryOp .Mod) dM:=Ac (C:=Pw) (gv:=fun i j=>.int (i.fmod j)) JH fun _ _ _ _=>rfl
theorem ti:lr X (binaryOp .Pow) uA:=Ac (C:=Iv) L8 fun _ _ _ _=>rfl
theorem G9:lr X (.X .Lt) Gm:=pL OM fun _ _ _ _=>rfl
theorem qm:lr X (compareOp .LtE) uz:=pL OL fun _ _ _ _=>rfl
theorem tf:lr X (.X .Gt) Bm:=pL OK fun _ _ _ _=>rfl
theorem K4:lr X (compareOp .GtE) Og:=pL OJ fun _ _ _ _=>rfl
def oA:T->T->Option T
 | .str x,.str y=>if x.length+y.length≤sizeLine then some (.str (x++y)) else none
 | .lst xs,.lst ys=>if xs.length+ys.length≤sizeLine then some (.lst (xs++ys)) else none
 | .tup (x::xs),.tup (y::ys)=>if (x::xs).length+(y::ys).length≤sizeLine then some (.tup (x::xs++y::ys)) else none
 |_,_=>none
theorem JJ:lr X (binaryOp .Add) oA:=by
 intro pins s σ H x y v u Q I rx ry ⟨F,a,b,t,sm,ra,rb,e,q⟩
 unfold oA at e
 split at e
 ·split at e
  ·next hl =>
   cases e;cases ra;cases rb
   exact BM pins s σ H _ _ v u Q I rx ry ⟨_,_,rfl,rfl,hl,q F H _ .ak rfl⟩
  ·cases e
 ·split at e
  ·next hl =>
   cases e
   obtain⟨p1,x1,rfl,h1,h2⟩:=ra
   obtain⟨p2,x2,rfl,h3,h4⟩:=rb
   refine L5 pins s σ H _ _ v u Q I rx ry ⟨p1,p2,x1,x2,rfl,rfl,sm _ _ h1,sm _ _ h3,by rw [h2.length,h4.length];exact hl,fun p hp=>?_⟩
   have gr:=bw.new (.lst (x1++x2)) sm hp
   exact q _ _ _ gr ⟨p,_,rfl,aQ,aT.mono gr.sF (h2.append h4)⟩
  ·cases e
 ·split at e
  ·next hl =>
   cases e
   obtain⟨p1,x1,rfl,h1,h2⟩:=ra
   obtain⟨p2,x2,rfl,h3,h4⟩:=rb
   refine JG pins s σ H _ _ v u Q I rx ry ⟨p1,p2,x1,x2,rfl,rfl,cm sm h1,cm sm h3,fun z=>?_,by rw [h2.length,h4.length];exact hl,fun z=>?_,fun _ p hp=>?_⟩
   ·subst z;have:=h2.length;simp at this
   ·subst z;have:=h4.length;simp at this
   ·have gr:=bw.new (.tup (x1++x2)) sm hp
    exact q _ _ _ gr ⟨p,_,rfl,mM.of aQ,aT.mono gr.sF (h2.append h4)⟩
  ·cases e
 ·cases e
def aR:T->T->Option T:=QL (gI (fun _ _=>True) fun i j=>.int (i+j)) oA
theorem bp:lr X (binaryOp .Add) aR:=lr.or (pL L4 fun _ _ _ _=>rfl) JJ
theorem eE {i j:Int}:aR (.j i) (.j j)=some (.j (i+j)):=rfl
theorem oB {xs ys:List T}(h:xs.length+ys.length≤sizeLine):aR .c6 (.lst ys)=some (.lst (xs++ys)):=by
 show oA .c6 (.lst ys)=_
 simp only [oA,if_pos h]
theorem Gb {x y:T}{xs ys:List T}(h:(x::xs).length+(y::ys).length≤sizeLine):aR (.tup (x::xs)) (.tup (y::ys))=some (.tup (x::xs++y::ys)):=by
 show oA (.tup (x::xs)) (.tup (y::ys))=_
 simp only [oA,if_pos h]
theorem Ga {x y:Str}(h:x.length+y.length≤sizeLine):aR .fH (.str y)=some (.str (x++y)):=by
 show oA .fH (.str y)=_
 simp only [oA,if_pos h]
def oC:T->Option T
 | .int i=>some (.j (-i))
 |_=>none
theorem yA:RF X (unaryOp .USub) oC:=by
 intro pins s σ H x v Q I rx ⟨F,a,t,sm,ra,e,q⟩
 unfold oC at e
 split at e
 ·cases e;cases ra
  exact M4 pins s σ H _ v Q I rx ⟨_,rfl,q F H _ .ak rfl⟩
 ·cases e
mutual
def wm:T->Option PyData
 | .non=>some .none
 | .bl b=>some (.bool b)
 | .int i=>some (.j i)
 | .str x=>some .fH
 | .tup ts=>(pW ts).map .tuple
 | .lst ts=>(pW ts).map .list
 | .scr ts=>(pW ts).map .list
 | .ty _=>none
 | .dct _ _=>none
 | .obj _ _ _=>none
 | .ptr _=>none
 | .exc _ _ _=>none
def pW:List T->Option (List PyData)
 |[]=>some []
 |t::ts=>(wm t).bind fun d=>(pW ts).bind fun ds=>some (d::ds)
end
mutual
theorem eS (I:.u)(sm:aV F H):∀{t:T} {d:PyData} {v:V} {u:Value},wm t=some d->Rep X.K F t v->RelV v u->∃as,Reads s.heap u d as
 | .non,d,v,u,e,r,ru=>by cases r;cases e;cases ru;exact⟨_,.none⟩
 | .bl b,d,v,u,e,r,ru=>by cases r;cases e;cases ru;exact⟨_,.bool _⟩
 | .int i,d,v,u,e,r,ru=>by cases r;cases e;obtain⟨t,rfl⟩:=ru;exact⟨_,.int _ _⟩
 | .str x,d,v,u,e,r,ru=>by cases r;cases e;obtain⟨t,rfl⟩:=ru;exact⟨_,.str _ _⟩
 | .ty _,d,v,u,e,r,ru=>by cases e
 | .dct _ _,d,v,u,e,r,ru=>by cases e
 | .obj _ _ _,d,v,u,e,r,ru=>by cases e
 | .ptr _,d,v,u,e,r,ru=>by cases e
 | .exc _ _ _,d,v,u,e,r,ru=>by cases e
 | .tup ts,d,v,u,e,r,ru=>by
  obtain⟨p,xs,rfl,h1,h2⟩:=r
  cases ru
  simp only [wm] at e
  cases e1:pW ts with
  |none=>rw [e1] at e;cases e
  |some ds =>
   rw [e1] at e;cases e
   obtain⟨its,rv,⟨o,g1,g2,n,g3⟩,_⟩:=I.tuple (cm sm h1)
   obtain⟨as,q⟩:=je I sm e1 h2 rv
   exact⟨_,.tuple g1 g2 g3 q⟩
 | .lst ts,d,v,u,e,r,ru=>by
  obtain⟨p,xs,rfl,h1,h2⟩:=r
  cases ru
  simp only [wm] at e
  cases e1:pW ts with
  |none=>rw [e1] at e;cases e
  |some ds =>
   rw [e1] at e;cases e
   obtain⟨its,rv,⟨o,n,g1,g2,_,g3⟩,_⟩:=I.list .fi
   obtain⟨as,q⟩:=je I sm e1 h2 rv
   exact⟨_,.list g1 g2 g3 q⟩
 | .scr ts,d,v,u,e,r,ru=>by
  obtain⟨p,xs,rfl,h1,h2⟩:=r
  cases ru
  simp only [wm] at e
  cases e1:pW ts with
  |none=>rw [e1] at e;cases e
  |some ds =>
   rw [e1] at e;cases e
   obtain⟨its,rv,⟨o,n,g1,g2,_,g3⟩,_⟩:=I.list (sm.seq h1)
   obtain⟨as,q⟩:=je I sm e1 h2 rv
   exact⟨_,.list g1 g2 g3 q⟩
theorem je (I:.u)(sm:aV F H):∀{ts:List T} {ds:List PyData} {vs:List V} {us:.X},pW ts=some ds->aT X.K F ts vs->Vals vs us->∃as,ReadsAll s.heap us ds as
 |[],ds,vs,us,e,r,ru=>by cases r;cases ru;cases e;exact⟨_,.nil⟩
 |t::ts,ds,vs,us,e,r,ru=>by
  obtain⟨v,rr,rfl,h1,h2⟩:=r
  cases ru with
  |cons r1 r2 =>
   simp only [pW] at e
   obtain⟨d,e1,e⟩:=bind_some e
   obtain⟨ds',e2,e⟩:=bind_some e
   cases e
   obtain⟨as,q1⟩:=eS I sm e1 h1 r1
   obtain⟨bs,q2⟩:=je I sm e2 h2 r2
   exact⟨_,.cons q1 q2⟩
end
def zo (neg:Bool)(a b:T):Option T:=(wm a).bind fun p=>(wm b).bind fun q=>if SeqAt.shaped p=true/\SeqAt.shaped q=true then some (.bl (if neg then !PyData.eqv p q else PyData.eqv p q)) else none
abbrev eJ:=zo false
abbrev qg:=zo true
theorem cI (hu:.bE):lr X (.X .Eq) eJ:=by
 intro pins s σ H x y v u Q I rx ry ⟨F,a,b,t,sm,ra,rb,e,q⟩
 obtain⟨d1,e1,e⟩:=bind_some e
 obtain⟨d2,e2,e⟩:=bind_some e
 split at e
 ·next hs =>
  cases e
  obtain⟨as,q1⟩:=eS I sm e1 ra rx
  obtain⟨bs,q2⟩:=eS I sm e2 rb ry
  exact SeqAt.compareEq_shaped q1 q2 hs.1 hs.2 hu .b4
 ·cases e
theorem lS (hu:.bE):lr X (compareOp .NotEq) qg:=by
 intro pins s σ H x y v u Q I rx ry ⟨F,a,b,t,sm,ra,rb,e,q⟩
 obtain⟨d1,e1,e⟩:=bind_some e
 obtain⟨d2,e2,e⟩:=bind_some e
 split at e
 ·next hs =>
  cases e
  obtain⟨as,q1⟩:=eS I sm e1 ra rx
  obtain⟨bs,q2⟩:=eS I sm e2 rb ry
  exact SeqAt.compareNe_shaped q1 q2 hs.1 hs.2 hu .b4
 ·cases e
def CU:T->Bool
 | .non=>true
 |_=>false
def Nn:T->T->Option T
 |a,.non=>some (.bl (CU a))
 | .bl c,.bl d=>some (.bl (c == d))
 |_,_=>none
theorem vP {K:.l}{F:Hp}{t:T}{v:V}(r:Rep K F t v):decide (v=.non)=CU t:=by
 cases t with
 |non=>cases r;rfl
 |bl _=>cases r;rfl
 |int _=>cases r;rfl
 |str _=>cases r;rfl
 |ty _=>cases r;rfl
 |tup _=>obtain⟨p,xs,rfl,_⟩:=r;rfl
 |lst _=>obtain⟨p,xs,rfl,_⟩:=r;rfl
 |scr _=>obtain⟨p,xs,rfl,_⟩:=r;rfl
 |dct _ _=>obtain⟨p,_,_,rfl,_⟩:=r;rfl
 |obj _ _ _=>obtain⟨p,_,_,rfl,_⟩:=r;rfl
 |ptr _=>rw [show v=_ from r];rfl
 |exc _ _ _=>obtain⟨p,_,rfl,_⟩:=r;rfl
theorem OO:lr X (.X .Is) Nn:=by
 intro pins s σ H x y v u Q I rx ry ⟨F,a,b,t,sm,ra,rb,e,q⟩
 unfold Nn at e
 split at e
 ·cases e;cases rb
  exact L7 pins s σ H _ _ v u Q I rx ry ⟨rfl,by rw [vP ra];exact q F H _ .ak rfl⟩
 ·cases e;cases ra;cases rb;cases rx;cases ry
  exact is_bool .b4
 ·cases e
def bz:T->T->Option T
 | .lst ts,.int i=>yG ts i
 | .scr ts,.int i=>yG ts i
 | .tup ts,.int i=>yG ts i
 | .str x,.int i=>if x.length≤sizeLine then (yG x.cps.toList i).map fun c=>.str ⟨#[c]⟩ else none
 |_,_=>none
theorem wB {K:.l}{F:Hp}{ts:List T}{vs:List V}{i:Int}{t:T}(r:aT K F ts vs)(e:yG ts i=some t):∃v,yG vs i=some v/\Rep K F t v:=by
 unfold yG at e ⊢
 rw [r.length]
 obtain⟨j,e1,e2⟩:=bind_some e
 obtain⟨v,g1,g2⟩:=r.get e2
 exact⟨v,by rw [e1];exact g1,g2⟩
theorem aN:M7 X (MG X.K bz):=by
 intro value slice pins s σ H x y v u Q I rx ry ⟨F,a,b,t,sm,ra,rb,e,q⟩ hs
 unfold bz at e
 split at e
 ·obtain⟨p,xs,rfl,h1,h2⟩:=ra
  cases rb
  obtain⟨w,g1,g2⟩:=wB h2 e
  exact CW value slice pins s σ H _ _ v u Q I rx ry ⟨p,xs,_,w,rfl,rfl,gR.of (sm _ _ h1),g1,q F H _ .ak g2⟩ hs
 ·obtain⟨p,xs,rfl,h1,h2⟩:=ra
  cases rb
  obtain⟨w,g1,g2⟩:=wB h2 e
  exact CW value slice pins s σ H _ _ v u Q I rx ry ⟨p,xs,_,w,rfl,rfl,sm.seq h1,g1,q F H _ .ak g2⟩ hs
 ·obtain⟨p,xs,rfl,h1,h2⟩:=ra
  cases rb
  obtain⟨w,g1,g2⟩:=wB h2 e
  exact LO value slice pins s σ H _ _ v u Q I rx ry ⟨p,xs,_,w,rfl,rfl,cm sm h1,g1,q F H _ .ak g2⟩ hs
 ·split at e
  ·next hl =>
   cases ra;cases rb
   cases e1:yG (Str.cps _).toList _ with
   |none=>rw [e1] at e;cases e
   |some c =>
    rw [e1] at e;cases e
    exact LN value slice pins s σ H _ _ v u Q I rx ry ⟨_,_,c,rfl,rfl,hl,e1,q F H _ .ak rfl⟩ hs
  ·cases e
 ·cases e
theorem iE (h:gb X f r)(i:∀vs H Q,Qd X.K g vs H Q->r vs H Q):gy X f g:=fun pins s σ H xs us Q I rx q=>h pins s σ H xs us Q I rx (i _ _ _ q)
def cn:List T->Option T
 |[.lst ts]=>some (.int ts.length)
 |[.scr ts]=>some (.int ts.length)
 |[.tup ts]=>some (.int ts.length)
 |[.str x]=>if x.length≤sizeLine then some (.int x.length) else none
 |_=>none
theorem dw:gy X (.builtin "len") cn:=iE (gb.or wD wF) fun vs H Q hq__=>by
 obtain⟨F,ts,t,sm,r,e,q⟩:=hq__
 unfold cn at e
 split at e
 ·obtain⟨v,rr,rfl,⟨p,xs,rfl,h1,h2⟩,rfl⟩:=r
  cases e
  exact .inl ⟨p,xs,rfl,.inl .fi,by rw [h2.length];exact q F H _ .ak rfl⟩
 ·obtain⟨v,rr,rfl,⟨p,xs,rfl,h1,h2⟩,rfl⟩:=r
  cases e
  exact .inl ⟨p,xs,rfl,.inl (sm.seq h1),by rw [h2.length];exact q F H _ .ak rfl⟩
 ·obtain⟨v,rr,rfl,⟨p,xs,rfl,h1,h2⟩,rfl⟩:=r
  cases e
  exact .inl ⟨p,xs,rfl,.inr (cm sm h1),by rw [h2.length];exact q F H _ .ak rfl⟩
 ·split at e
  ·next hl =>
   obtain⟨v,rr,rfl,h1,rfl⟩:=r
   cases h1;cases e
   exact .inr ⟨_,rfl,hl,q F H _ .ak rfl⟩
  ·cases e
 ·cases e
def rT:List T->Option T
 |[.int i]=>some (.j (if i<0 then -i else i))
 |_=>none
theorem rO:gy X (.builtin "abs") rT:=iE Fm fun vs H Q hq__=>by
 obtain⟨F,ts,t,sm,r,e,q⟩:=hq__
 unfold rT at e
 split at e
 ·obtain⟨v,rr,rfl,h1,rfl⟩:=r
  cases h1;cases e
  exact⟨_,rfl,q F H _ .ak rfl⟩
 ·cases e
def QE:List T->Option T
 |[.int i,.int j]=>some (.j (if j>i then j else i))
 |_=>none
def II:List T->Option T
 |[.int i,.int j]=>some (.j (if j<i then j else i))
 |_=>none
theorem Lo (hc:.bL):gy X (.builtin "min") II:=iE (DX hc) fun vs H Q hq__=>by
 obtain⟨F,ts,t,sm,r,e,q⟩:=hq__
 unfold II at e
 split at e
 ·obtain⟨v,rr,rfl,h1,v2,r2,rfl,h2,rfl⟩:=r
  cases h1;cases h2;cases e
  exact⟨_,_,rfl,q F H _ .ak rfl⟩
 ·cases e
def IH:List T->Option T
 |[.int i]=>some (.j i)
 |[.bl c]=>some (.j (if c then 1 else 0))
 |_=>none
theorem Ln:gy X (.type "int") IH:=iE DU fun vs H Q hq__=>by
 obtain⟨F,ts,t,sm,r,e,q⟩:=hq__
 unfold IH at e
 split at e
 ·obtain⟨v,rr,rfl,h1,rfl⟩:=r
  cases h1;cases e
  exact .inl ⟨_,rfl,q F H _ .ak rfl⟩
 ·obtain⟨v,rr,rfl,h1,rfl⟩:=r
  cases h1;cases e
  exact .inr ⟨_,rfl,q F H _ .ak rfl⟩
 ·cases e
def lb:List T->Option T
 |[.int i]=>if i.natAbs.log2<1920 then some (.str (toString i)) else none
 |_=>none
theorem rP:gy X (.type "str") lb:=iE wH fun vs H Q hq__=>by
 obtain⟨F,ts,t,sm,r,e,q⟩:=hq__
 unfold lb at e
 split at e
 ·split at e
  ·next hl =>
   obtain⟨v,rr,rfl,h1,rfl⟩:=r
   cases h1;cases e
   exact⟨_,rfl,hl,q F H _ .ak rfl⟩
  ·cases e
 ·cases e
def dList:List T->Option T
 |[.lst ts]=>some .dX
 |[.scr ts]=>some .dX
 |[.tup ts]=>some .dX
 |_=>none
theorem IE:gy X (.type "list") dList:=iE wG fun vs H Q hq__=>by
 obtain⟨F,ts,t,sm,r,e,q⟩:=hq__
 unfold dList at e
 split at e
 ·obtain⟨v,rr,rfl,⟨p,xs,rfl,h1,h2⟩,rfl⟩:=r
  cases e
  refine⟨p,xs,rfl,.inl .fi,fun l hl=>?_⟩
  have gr:=bw.new .c6 sm hl
  exact q _ _ _ gr ⟨l,xs,rfl,aQ,aT.mono gr.sF h2⟩
 ·obtain⟨v,rr,rfl,⟨p,xs,rfl,h1,h2⟩,rfl⟩:=r
  cases e
  refine⟨p,xs,rfl,.inl (sm.seq h1),fun l hl=>?_⟩
  have gr:=bw.new .c6 sm hl
  exact q _ _ _ gr ⟨l,xs,rfl,aQ,aT.mono gr.sF h2⟩
 ·obtain⟨v,rr,rfl,⟨p,xs,rfl,h1,h2⟩,rfl⟩:=r
  cases e
  refine⟨p,xs,rfl,.inr (cm sm h1),fun l hl=>?_⟩
  have gr:=bw.new .c6 sm hl
  exact q _ _ _ gr ⟨l,xs,rfl,aQ,aT.mono gr.sF h2⟩
 ·cases e
def Nz:T->Option String
 | .non=>some "NoneType"
 | .bl _=>some "bool"
 | .int _=>some "int"
 | .str _=>some "str"
 | .tup _=>some "tuple"
 | .lst _=>some "list"
 | .scr _=>some "list"
 | .dct _ _=>some "dict"
 | .obj _ _ _=>none
 | .ptr _=>none
 | .exc _ _ _=>none
 | .ty _=>none
def kinds:List String:=["int","bool","str","list","tuple","dict"]
def P4 (a c:String):Option Bool:=if c∈kinds then some (a == c||(a == "bool"&&c == "int")) else none
def LM (a:String):List T->Option Bool
 |[]=>some false
 | .ty c::r=>(P4 a c).bind fun b=>if b=true then some true else LM a r
 |_::_=>none
theorem GI {K:.l}{t:T}{a c:String}{b:Bool}(ha:Nz t=some a)(h:P4 a c=some b):PySem.W.kitOne K (.type a) (.type c)=some b:=by
 have ha:a∈["NoneType","bool","int","str","tuple","list","dict"]:=by
  cases t<;>simp only [Nz] at ha<;>cases ha<;>simp
 unfold P4 at h
 split at h
 ·next hc =>
  cases h
  simp only [kinds,List.mem_cons,List.not_mem_nil,or_false] at hc ha
  rcases ha with rfl | rfl | rfl | rfl | rfl | rfl | rfl<;>rcases hc with rfl | rfl | rfl | rfl | rfl | rfl<;>rfl
 ·cases h
theorem CZ {K:.l}{F:Hp}{t:T}{a:String}(ha:Nz t=some a):∀{cs:List T} {vs:List V} {us:.X} {b:Bool},LM a cs=some b->aT K F cs vs->Vals vs us->PySem.W.kitAny K (.type a) us=some b
 |[],vs,us,b,h,r,ru=>by cases r;cases ru;cases h;rfl
 | .ty c::cs,vs,us,b,h,r,ru=>by
  obtain⟨v,rr,rfl,h1,h2⟩:=r
  cases h1
  cases ru with
  |cons r1 r2 =>
   cases r1
   obtain⟨b',e1,h⟩:=bind_some h
   unfold PySem.W.kitAny
   rw [GI ha e1]
   cases b' with
   |true=>rw [if_pos rfl] at h;exact h
   |false=>rw [if_neg .f] at h;exact CZ ha h h2 r2
 | .non::cs,vs,us,b,h,r,ru=>by cases h
 | .bl _::cs,vs,us,b,h,r,ru=>by cases h
 | .int _::cs,vs,us,b,h,r,ru=>by cases h
 | .str _::cs,vs,us,b,h,r,ru=>by cases h
 | .tup _::cs,vs,us,b,h,r,ru=>by cases h
 | .lst _::cs,vs,us,b,h,r,ru=>by cases h
 | .scr _::cs,vs,us,b,h,r,ru=>by cases h
 | .dct _ _::cs,vs,us,b,h,r,ru=>by cases h
 | .obj _ _ _::cs,vs,us,b,h,r,ru=>by cases h
 | .ptr _::cs,vs,us,b,h,r,ru=>by cases h
 | .exc _ _ _::cs,vs,us,b,h,r,ru=>by cases h
theorem zO (I:.u)(sm:aV F H)(r:Rep X.K F t v)(ru:RelV v u)(ha:Nz t=some a):
  ∃Hh:Heap->Prop,PySem.W.KitX X.K u (.type a) Hh/\Hh s.heap/\u≠.builtin "__main__.__loader__#opaque" := by
 cases t with
 |non=>cases r;cases ru;cases ha;exact⟨_,PySem.W.kitx_none,True.intro,fun z=>nomatch z⟩
 |bl _=>cases r;cases ru;cases ha;exact⟨_,PySem.W.kitx_bool,True.intro,fun z=>nomatch z⟩
 |int _=>cases r;obtain⟨t,rfl⟩:=ru;cases ha;exact⟨_,PySem.W.kitx_int,True.intro,fun z=>nomatch z⟩
 |str _=>cases r;obtain⟨t,rfl⟩:=ru;cases ha;exact⟨_,PySem.W.kitx_str,True.intro,fun z=>nomatch z⟩
 |ty _=>cases ha
 |tup _ =>
  obtain⟨p,xs,rfl,h1,h2⟩:=r
  cases ru;cases ha
  obtain⟨its,rv,⟨o,g1,g2,n,g3⟩,_⟩:=I.tuple (cm sm h1)
  exact⟨_,PySem.W.kitx_tuple,⟨o,g1,g2⟩,fun z=>nomatch z⟩
 |lst _ =>
  obtain⟨p,xs,rfl,h1,h2⟩:=r
  cases ru;cases ha
  obtain⟨its,rv,⟨o,n,g1,g2,_,g3⟩,_⟩:=I.list .fi
  exact⟨_,zbv,⟨o,g1,g2⟩,fun z=>nomatch z⟩
 |scr _ =>
  obtain⟨p,xs,rfl,h1,h2⟩:=r
  cases ru;cases ha
  obtain⟨its,rv,⟨o,n,g1,g2,_,g3⟩,_⟩:=I.list (sm.seq h1)
  exact⟨_,zbv,⟨o,g1,g2⟩,fun z=>nomatch z⟩
 |dct ns ts =>
  obtain⟨p,ob,us,rfl,h1,_⟩:=r
  cases ru;cases ha
  obtain⟨_,_,vs,_,o,es,ep,h1,h2,_⟩:=(show du X.prog X.w H s.heap p (.dK (df ns us)) from (I.hok p _ (sm _ _ h1)).2)
  exact⟨_,zbS,⟨o,h1,h2.1⟩,fun z=>nomatch z⟩
 |obj _ _ _=>cases ha
 |ptr _=>cases ha
 |exc _ _ _=>cases ha
def bN:List T->Option T
 |[t,.ty c]=>(Nz t).bind fun a=>(P4 a c).bind fun b=>some (.bl b)
 |[t,.tup cs]=>(Nz t).bind fun a=>(LM a cs).bind fun b=>some (.bl b)
 |_=>none
theorem ny:gy X .ft bN:=by
 intro pins s σ H xs us Q I rx ⟨F,ts,t,sm,r,e,q⟩
 unfold bN at e
 split at e
 ·obtain⟨a,e1,e⟩:=bind_some e
  obtain⟨b,e2,e⟩:=bind_some e
  cases e
  obtain⟨v,rr,rfl,h1,v2,r2,rfl,h2,rfl⟩:=r
  cases h2
  obtain⟨u1,u2,rfl,ra,rb⟩:=Vals.two rx
  cases rb
  obtain⟨Hh,Z,hh,hn⟩:=zO I sm h1 ra e1
  exact zaG Z I.kIn hh (GI e1 e2) hn fun tk=>⟨.bl b,H,I.tok tk,rfl,q F H _ .ak rfl⟩
 ·obtain⟨a,e1,e⟩:=bind_some e
  obtain⟨b,e2,e⟩:=bind_some e
  cases e
  obtain⟨v,rr,rfl,h1,v2,r2,rfl,⟨p,xs,rfl,h3,h4⟩,rfl⟩:=r
  obtain⟨u1,u2,rfl,ra,rb⟩:=Vals.two rx
  cases rb
  obtain⟨Hh,Z,hh,hn⟩:=zO I sm h1 ra e1
  obtain⟨its,rv,⟨o,g1,g2,n,g3⟩,_⟩:=I.tuple (cm sm h3)
  obtain⟨oc,od,odt,osl⟩:=o
  dsimp only at g2 g3
  subst g2 g3
  exact PySem.W.kia_tup Z I.kIn hh g1 (CZ e1 e2 h4 rv) hn fun tk=>⟨.bl b,H,I.tok tk,rfl,q F H _ .ak rfl⟩
 ·cases e
end
section
variable {X:Cx}{pos:Pos}
def QG:FE:=fun τ=>some (.dic,τ)
abbrev FO:=aD->Option (Option Int×aD)
def tO (K:.l)(Y0 Y9:Hp)(f:FO):TO:=fun σ H Q=>∃F τ o τ',aJ K Y0 Y9 F H σ τ/\f τ=some (o,τ')/\∀F' H',aJ K Y0 Y9 F' H' σ τ'->aV F F'->Q o H'
def SO (X:Cx)(e:Option Expr)(f:FO):Prop:=∀Y0 Y9,PO X e (tO X.K Y0 Y9 f)
def fj:FO:=fun τ=>some (none,τ)
def dU (f:FE):FO:=fun τ=>(f τ).bind fun p=>match p.1 with | .int i=>some (some i,p.2) | _=>none
theorem PO.weak {t t':TO}(h:PO X e t)(i:∀σ H Q,t' σ H Q->t σ H Q):PO X e t':=fun pins s σ H Q I q=>h pins s σ H Q I (i σ H Q q)
theorem yr:SO X none fj:=fun Y0 Y9=>PO.weak JV fun σ H Q hq__=>by
 obtain⟨F,τ,t,τ',E,e1,q⟩:=hq__
 cases e1
 exact q F H E .en
theorem mJ (h:SE X e f):SO X (some e) (dU f):=fun Y0 Y9=>PO.weak (JW .c3) fun σ H Q hq__=>by
 obtain⟨F,τ,t,τ',E,e1,q⟩:=hq__
 obtain⟨⟨x,τ1⟩,e2,e1⟩:=bind_some e1
 dsimp only at e1
 split at e1
 ·cases e1
  exact⟨F,τ,_,_,E,e2,fun F' H' v E' s' r'=>by cases r';exact⟨_,rfl,q F' H' E' s'⟩⟩
 ·cases e1
def rQ (xs:List T)(lo hi:.e8):List T:=(xs.drop (HT.gw xs.length 0 lo)).take .cx
def PY (t:T)(lo hi:.e8):Option T:=match t with
 | .lst xs=>some (.lst (rQ xs lo hi))
 | .scr xs=>some (.lst (rQ xs lo hi))
 | .tup xs=>if HT.gw xs.length 0 lo=0/\HT.gw xs.length xs.length hi=xs.length then none else some (.tup (rQ xs lo hi))
 |_=>none
theorem wN {K:.l}{F:Hp}{ts:List T}{vs:List V}(r:aT K F ts vs)(lo hi:.e8):aT K F (rQ ts lo hi) (rR vs lo hi):=by
 unfold rQ rR
 rw [r.length]
 exact (r.drop _).take _
def yJ (f:FE)(fl fh:FO):FE:=fun τ=>(f τ).bind fun p=>(fl p.2).bind fun q=>(fh q.2).bind fun r=>(PY p.1 q.1 r.1).bind fun t=>some (t,r.2)
theorem oV {e:Expr}{lo hi:Option Expr}{f:FE}{fl fh:FO}{p2:Pos}(he:SE X e f)(hl:SO X lo fl)(hh:SO X hi fh):SE X (.U e (.Slice lo hi none p2)) (yJ f fl fh):=
 fun Y0 Y9=>PE.weak (Ho (Ku.or Kd MP) .fy (hl Y0 Y9) (hh Y0 Y9)) fun σ H Q hq__=>by
  obtain⟨F,τ,t,τ',E,e1,q⟩:=hq__
  obtain⟨⟨x,τ1⟩,e2,e1⟩:=bind_some e1
  obtain⟨⟨l,τ2⟩,e3,e1⟩:=bind_some e1
  obtain⟨⟨h,τ3⟩,e4,e1⟩:=bind_some e1
  obtain⟨y,e5,e1⟩:=bind_some e1
  cases e1
  refine⟨F,τ,x,τ1,E,e2,fun F1 H1 v E1 s1 r1=>⟨F1,τ1,l,τ2,E1,e3,fun F2 H2 E2 s2=>⟨F2,τ2,h,_,E2,e4,fun F3 H3 E3 s3=>?_⟩⟩⟩
  have r3:=Rep.mono (s2.trans s3) r1
  have sm:=E3.g.fh
  dsimp only at e5
  unfold PY at e5
  split at e5
  ·cases e5
   obtain⟨p,xs,rfl,h1,h2⟩:=r3
   refine .inl ⟨p,xs,rfl,gR.of (sm _ _ h1),fun a ha=>?_⟩
   have gr:=bw.new (.lst (rR xs l h)) sm ha
   exact q _ _ _ (E3.grow gr) (((s1.trans s2).trans s3).trans gr.sF) ⟨a,_,rfl,aQ,aT.mono gr.sF (wN h2 l h)⟩
  ·cases e5
   obtain⟨p,xs,rfl,h1,h2⟩:=r3
   refine .inl ⟨p,xs,rfl,sm.seq h1,fun a ha=>?_⟩
   have gr:=bw.new (.lst (rR xs l h)) sm ha
   exact q _ _ _ (E3.grow gr) (((s1.trans s2).trans s3).trans gr.sF) ⟨a,_,rfl,aQ,aT.mono gr.sF (wN h2 l h)⟩
  ·split at e5
   ·cases e5
   ·next hn =>
    cases e5
    obtain⟨p,xs,rfl,h1,h2⟩:=r3
    refine .inr ⟨p,xs,rfl,cm sm h1,by rw [h2.length];exact hn,fun a ha=>?_⟩
    have gr:=bw.new (.tup (rR xs l h)) sm ha
    exact q _ _ _ (E3.grow gr) (((s1.trans s2).trans s3).trans gr.sF) ⟨a,_,rfl,mM.of aQ,aT.mono gr.sF (wN h2 l h)⟩
  ·cases e5
theorem dZ (i:Nat){p1 p2 p3:Pos}(hv:PE X .dd (yu i))(he:SE X e f)
  (hbase:attributeBase .dd "append" X.env (.Q .dd)=eval .dd X.env:=by rfl)
  (hfew:((backTo p3 (starEach [e] X.env)).all (fun x=>!x.1)&&(backToKw p3 .cL).all (fun x=>x.1.isSome)&&decide ([e].length+([]:List Keyword).length+(if ([]:List Keyword).isEmpty then 0 else 1)<30))=true:=by rfl)
  (hline:(p2.endLine == p3.line)=true:=by rfl) (hs:starEach [e] X.env=(.i e)::starEach [] X.env:=by rfl) (hpl:(backTo p3 (starEach [] X.env)).any (·.1)=false:=by rfl)
  (hsw:swapsWith (.Call (.Attribute .dd "append" p2) [e] [] p3) none pos.line X.env=pure false:=by rfl):
  SS X (.Expr (.Call (.Attribute .dd "append" p2) [e] [] p3) pos) (fS i f):=fun Y0 Y9 =>
 PS.weak (ya (Hi PySem.F.plainAttrs_list PySem.F.slot_list_append PySem.F.type_list_append vW hv (kr .fy tj hs) hbase hfew hline hs hpl) hsw) fun D σ H hq__=>by
  obtain⟨F,τ,r,E,e1,q⟩:=hq__
  unfold fS at e1
  split at e1
  ·next ts0 h0 =>
   obtain⟨⟨t,τ1⟩,e2,e1⟩:=bind_some e1
   dsimp only at e1
   split at e1
   ·next ts h1 =>
    split at e1
    ·next hz =>
     cases e1
     obtain⟨v,g1,p,vs,rfl,g2,g3,g4,g5⟩:=E.sl i _ h0
     refine⟨_,g1,.inl ⟨rfl,vs,gR.of g2⟩,F,τ,t,τ1,E,e2,fun F' H' w E' s' r'=>?_⟩
     obtain⟨v',k1,p',vs',rfl,k2,k3,k4,k5⟩:=E'.sl i _ h1
     rw [g1] at k1;cases k1
     exact⟨p,vs',w,rfl,rfl,k2,by rw [k5.length];exact hz,q F' _ σ (E'.turnOwn h1 g1 (k5.append (.one r'))) s'⟩
    ·cases e1
   ·cases e1
  ·cases e1
def MR (a b c:Int):Prop:=(0≤a/\a<2^62)/\(0≤b/\b<2^62)/\(1≤c/\c<2^29)
instance (a b c:Int):Decidable (MR a b c):=inferInstanceAs (Decidable ((_/\_)/\(_/\_)/\_/\_))
end
def gC (b:Bool)(h:Heap)(it a:Addr)(i:Nat):Prop:=match b with
 |true=>h.IsListIter it a i
 |false=>h.IsTupleIter it a i
def jU (b:Bool)(h:Heap)(a:Addr)(xs:.cK):Prop:=match b with
 |true=>h.IsList a xs
 |false=>h.IsTuple a xs
theorem gC.ext {b:Bool}{h h':Heap}{i:Nat}(x:gC b h it a i)(k:∀o,h.get? it=some o->h'.get? it=some o):gC b h' it a i:=by
 cases b with
 |true=>obtain⟨o,e,r⟩:=x;exact⟨o,k o e,r⟩
 |false=>obtain⟨o,e,r⟩:=x;exact⟨o,k o e,r⟩
theorem jU.ext {b:Bool}{h h':Heap}(x:jU b h a xs)(k:∀o,h.get? a=some o->h'.get? a=some o):jU b h' a xs:=by
 cases b with
 |true=>obtain⟨o,e,r⟩:=x;exact⟨o,k o e,r⟩
 |false=>obtain⟨o,e,r⟩:=x;exact⟨o,k o e,r⟩
theorem gC.obj {b:Bool}{i:Nat}(x:gC b h it a i):∃o,h.get? it=some o/\∀v,o.data≠.cell v:=by
 cases b with
 |true=>obtain⟨o,e,_,d⟩:=x;exact⟨o,e,fun v z=>by rw [d] at z;cases z⟩
 |false=>obtain⟨o,e,_,d⟩:=x;exact⟨o,e,fun v z=>by rw [d] at z;cases z⟩
section
variable {prog:.am}{w:World}{A:Around}{E:.m}{s:Shared}
theorem lR {b:Bool}{i:Nat}{Q:.m}(h1:gC b s.heap it a i)(h2:jU b s.heap a xs)(hx:xs[i]? = some x)
  (hQ:∀h',gC b h' it a (i+1)->Heap.SameBut it s.heap h'->Q x { s with heap:=h' }):wpAny .M A (Builtin.SmallTypes.nextOf .fC) Q E s:=by
 cases b with
 |true=>exact wpAny_nextOf_list_item h1 h2 hx hQ
 |false =>
  have h1':s.heap.IsTupleIter it a i:=h1
  obtain⟨o,ho,hc,hd⟩:=id h1'
  obtain⟨ol,hol,_,nl,hdl⟩:=(show s.heap.IsTuple a xs from h2)
  unfold Builtin.SmallTypes.nextOf
  refine wpAny_bind (wpAny_callSpecial?_slot (name:=Str.ofString "__next__") h1'.typeIs F.slot_tuple_iterator_next (wpAny_call_entry F.slot_tuple_iterator_next h1'.typeIs F.entry_tuple_iterator_next (?_:wpAny _ _ (.R it 0) _ _ s) (F.args_tuple_iterator_next_1 _)))
  refine wpAny_bind (wpAny_field ho hd (x:=.ref a) rfl (?_:wpAny _ _ (if (Value.ref a == Value.none)=true then _ else _) _ _ s))
  rw [if_neg (show ¬ ((Value.ref a == Value.none)=true) from zaK)]
  refine (wpAny_bind (wpAny_field ho hd (x:=.int i 0) rfl ?_):wpAny _ _ (.R it 1) _ _ s)
  refine wpAny_bind (wpAny_seqItems (a:=a) hol hdl ?_)
  simp only [Int.toNat_natCast,hx]
  refine wpAny_bind (wpAny_setField ho hd .h (.V ⟨x,rfl,wpAny_pure (hQ _ ⟨_,Heap.get?_update_self _ ho (Obj.isFreed_of_fields (Obj.data_mapFields hd _)),(Obj.cls_mapFields ..).trans hc,?_⟩ (Heap.SameBut.update ..))⟩))
  rw [Obj.data_mapFields hd]<;>simp [rawInt]
theorem sQ {b:Bool}{i:Nat}(hh:A.handled=none)(h1:gC b s.heap it a i)(h2:jU b s.heap a xs)(hx:xs[i]? = none)
  (hE:∀h' e,Heap.ExtBut it s.heap h'->(∃o,h'.get? e=some o/\o.cls=.type "StopIteration")->E (.c e) { s with heap:=h' }):wpAny .M A (Builtin.SmallTypes.nextOf .fC) Q E s:=by
 cases b with
 |true=>exact wpAny_nextOf_list_end hh h1 h2 hx hE
 |false =>
  have h1':s.heap.IsTupleIter it a i:=h1
  obtain⟨o,ho,hc,hd⟩:=id h1'
  obtain⟨ol,hol,_,nl,hdl⟩:=(show s.heap.IsTuple a xs from h2)
  unfold Builtin.SmallTypes.nextOf
  refine wpAny_bind (wpAny_callSpecial?_slot (name:=Str.ofString "__next__") h1'.typeIs F.slot_tuple_iterator_next (wpAny_call_entry F.slot_tuple_iterator_next h1'.typeIs F.entry_tuple_iterator_next (?_:wpAny _ _ (.R it 0) _ _ s) (F.args_tuple_iterator_next_1 _)))
  refine wpAny_bind (wpAny_field ho hd (x:=.ref a) rfl (?_:wpAny _ _ (if (Value.ref a == Value.none)=true then _ else _) _ _ s))
  rw [if_neg (show ¬ ((Value.ref a == Value.none)=true) from zaK)]
  refine (wpAny_bind (wpAny_field ho hd (x:=.int i 0) rfl ?_):wpAny _ _ (.R it 1) _ _ s)
  refine wpAny_bind (wpAny_seqItems (a:=a) hol hdl ?_)
  simp only [Int.toNat_natCast,hx]
  refine wpAny_bind (wpAny_rule (.u (wpAny_setField ho hd .h (wpAny_bind (m:=newExc (.type "StopIteration") []) ?_))))
  simp only [newExc,newTuple]
  refine wpAny_bind (wpAny_newObj_type (wpAny_bind (m:=firstArgMember _ _) (wpAny_of_eq (a:=Value.none) (by first | rfl | (simp only [firstArgMember];rfl)) (wpAny_newObj_type ?_ (by size_fits)))) (by size_fits))
  simp only [raiseNew]
  refine wpAny_bind (wpAny_handled ?_)
  first | rw [show A.in1.handled=none from hh] | rw [hh]
  exact wpAny_bind (.V (wpAny_throw (hE _ _ (((Heap.SameBut.update ..).extBut.push _).push _) ⟨_,Heap.get?_push_size _ rfl,rfl⟩)))
variable {z TI TO i1 i2 l1 l2:Addr}{k:Nat}{xs ys:.cK}{x y a b:Value}{c1 c2:Bool}
theorem Ik {Q:.m}(D:.d5)(hz:IsZip s.heap z TI TO .none)(hI:.eU)(hO:IsPair s.heap TO a b)
  (h1:gC c1 s.heap i1 l1 k) (h2:gC c2 s.heap i2 l2 k) (g1:jU c1 s.heap l1 xs) (g2:jU c2 s.heap l2 ys) (hx:xs[k]? = some x) (hy:ys[k]? = some y)
  (hQ:∀h',IsZip h' z TI TO (rawInt s.heap.objs.size)->IsPair h' TO x y->gC c1 h' i1 l1 (k+1)->gC c2 h' i2 l2 (k+1)->IsPair h' s.heap.objs.size x y ->
   .a4->Q .b7 { s with heap:=h' }):
  wpAny .M A (Builtin.«zip.__next__» ⟨[.ref z],[]⟩) (fun fin s'=>∃v,fin=.done (.ret v)/\Q v s') E s:=by
 refine (wpAny_bind (wpAny_field hz rfl (x:=.bool false) rfl ?_):wpAny _ _ (.R z 2) _ _ _)
 refine (wpAny_bind (wpAny_field hz rfl (x:=.ref TI) rfl ?_):wpAny _ _ (.R z 3) _ _ _)
 refine wpAny_bind (wpAny_seqItems hI rfl ?_)
 refine (wpAny_bind ?_:wpAny _ _ (Builtin.SmallTypes.ownedTupleIsFree (.c z) >>= _) _ _ _)
 unfold Builtin.SmallTypes.ownedTupleIsFree
 refine wpAny_bind (wpAny_field hz rfl (x:=.none) rfl .b9)
 simp only [if_true]
 refine wpAny_bind (wpAny_rule (.u (wpAny_field hz rfl (x:=.ref TO) rfl (wpAny_bind (wpAny_setField_rec hz .h fun ha za sa=>?_)))))
 replace za:IsZip ha z TI TO .ellipsis:=za
 refine wpAny_bind ?_
 simp only [List.zipIdx_cons,List.zipIdx_nil,List.forIn_cons,List.forIn_nil]
 refine wpAny_bind (.q i1)
 refine wpAny_bind (lR (h1.ext fun o e=>sa.extBut _ _ D.i1z e) (g1.ext fun o e=>sa.extBut _ _ D.l1z e) hx fun hb kb sb=>wpAny_pure ?_)
 have Ob:IsPair hb TO a b:=sb.extBut _ _ D.TOi1 (sa.extBut _ _ D.TOz hO)
 refine wpAny_bind (wpAny_seqItems Ob rfl (.u (wpAny_updateSeq_pair Ob fun hc Oc sc=>wpAny_bind (wpAny_letGo .b9))))
 replace Oc:IsPair hc TO x b:=Oc
 refine wpAny_bind (.q i2)
 refine wpAny_bind (lR (h2.ext fun o e=>sc.extBut _ _ D.TOi2.symm (sb.extBut _ _ D.i12.symm (sa.extBut _ _ D.i2z e))) (g2.ext fun o e=>sc.extBut _ _ D.l2TO (sb.extBut _ _ D.l2i1 (sa.extBut _ _ D.l2z e))) hy fun hd kd sd=>wpAny_pure ?_)
 have Od:IsPair hd TO x b:=sd.extBut _ _ D.TOi2 Oc
 refine wpAny_bind (wpAny_seqItems Od rfl (.u (wpAny_updateSeq_pair Od fun he Oe se=>wpAny_bind (wpAny_letGo (.V .b9)))))
 replace Oe:IsPair he TO x y:=Oe
 refine wpAny_bind (wpAny_seqItems Oe rfl (.u (wpAny_newTuple ?_)))
 have ez:he.objs.size=s.heap.objs.size:=by rw [se.1,sd.1,sc.1,sb.1,sa.1]
 have ze:IsZip he z TI TO .ellipsis:=se.extBut _ _ D.TOz.symm (sd.extBut _ _ D.i2z.symm (sc.extBut _ _ D.TOz.symm (sb.extBut _ _ D.i1z.symm za)))
 have ke:∀c o,c≠z->c≠TO->c≠i1->c≠i2->s.heap.get? c=some o->he.get? c=some o:=fun c o n1 n2 n3 n4 e=>se.extBut _ _ n2 (sd.extBut _ _ n4 (sc.extBut _ _ n2 (sb.extBut _ _ n3 (sa.extBut _ _ n1 e))))
 have i1e:gC c1 he i1 l1 (k+1):=kb.ext fun o e=>se.extBut _ _ D.TOi1.symm (sd.extBut _ _ D.i12 (sc.extBut _ _ D.TOi1.symm e))
 have i2e:gC c2 he i2 l2 (k+1):=kd.ext fun o e=>se.extBut _ _ D.TOi2.symm e
 have zlt:z<he.objs.size:=Heap.lt_size ze
 refine (wpAny_bind ?_:wpAny _ _ (Builtin.SmallTypes.ownedTupleHandOut (.c z) (.ref he.objs.size) >>= _) _ _ _)
 unfold Builtin.SmallTypes.ownedTupleHandOut
 have zf:IsZip (he.push { cls:=.type "tuple", data:=.seq #[x,y] }) z TI TO .ellipsis:=Heap.get?_push_of_some _ ze
 refine wpAny_bind (wpAny_setField_rec zf .h fun hg zg sg=>?_)
 replace zg:IsZip hg z TI TO (rawInt he.objs.size):=zg
 refine wpAny_setField_rec zg .h fun hh zh sh=>?_
 replace zh:IsZip hh z TI TO (rawInt he.objs.size):=zh
 have up:∀c o,c≠z->he.get? c=some o->hh.get? c=some o:=fun c o n e=>sh.extBut _ _ n (sg.extBut _ _ n (.B e))
 have tp:IsPair hh he.objs.size x y:=sh.extBut _ _ (zaU zlt) (sg.extBut _ _ (zaU zlt) (.aw rfl))
 rw [ez] at zh tp
 refine wpAny_pure ⟨_,rfl,(?_:Q (.ref he.objs.size) _)⟩
 rw [ez]
 exact hQ hh zh (up _ _ D.TOz Oe) (i1e.ext fun o e=>up _ o D.i1z e) (i2e.ext fun o e=>up _ o D.i2z e) tp fun c o n1 n2 n3 n4 e=>up c o n1 (ke c o n1 n2 n3 n4 e)
theorem Kp (hh:A.handled=none)(D:.d5)(hz:IsZip s.heap z TI TO .none)(hI:.eU)(hO:IsPair s.heap TO a b)
  (h1:gC c1 s.heap i1 l1 k) (h2:gC c2 s.heap i2 l2 k) (g1:jU c1 s.heap l1 xs) (g2:jU c2 s.heap l2 ys) (hend:xs[k]? = none\/ys[k]? = none)
  (hE:∀h' e,.a4->(∃o,h'.get? e=some o/\o.cls=.type "StopIteration")->E (.c e) { s with heap:=h' }):
  wpAny .M A (Builtin.«zip.__next__» ⟨[.ref z],[]⟩) Q E s:=by
 refine (wpAny_bind (wpAny_field hz rfl (x:=.bool false) rfl ?_):wpAny _ _ (.R z 2) _ _ _)
 refine (wpAny_bind (wpAny_field hz rfl (x:=.ref TI) rfl ?_):wpAny _ _ (.R z 3) _ _ _)
 refine wpAny_bind (wpAny_seqItems hI rfl ?_)
 refine (wpAny_bind ?_:wpAny _ _ (Builtin.SmallTypes.ownedTupleIsFree (.c z) >>= _) _ _ _)
 unfold Builtin.SmallTypes.ownedTupleIsFree
 refine wpAny_bind (wpAny_field hz rfl (x:=.none) rfl .b9)
 simp only [if_true]
 refine wpAny_bind (wpAny_rule (.u (wpAny_field hz rfl (x:=.ref TO) rfl (wpAny_bind (wpAny_setField_rec hz .h fun ha za sa=>?_)))))
 replace za:IsZip ha z TI TO .ellipsis:=za
 refine wpAny_bind ?_
 simp only [List.zipIdx_cons,List.zipIdx_nil,List.forIn_cons,List.forIn_nil]
 refine wpAny_bind (.q i1)
 cases hx:xs[k]? with
 |none =>
  refine wpAny_bind (sQ hh (h1.ext fun o e=>sa.extBut _ _ D.i1z e) (g1.ext fun o e=>sa.extBut _ _ D.l1z e) hx fun hb e sb eo=>?_)
  obtain⟨oe,ho,hc⟩:=eo
  have zb:IsZip hb z TI TO .ellipsis:=sb _ _ D.i1z.symm za
  have ne:e≠z:=fun q=>by subst q;rw [zb] at ho;cases ho;simp at hc
  exact wpAny_setField_rec zb .h fun hd _ sd=>hE hd e (fun c o n1 _ n3 _ q=>sd.extBut _ _ n1 (sb _ _ n3 (sa.extBut _ _ n1 q))) ⟨oe,sd.extBut _ _ ne ho,hc⟩
 |some x =>
  have hy:ys[k]? = none:=by rcases hend with h | h;rw [hx] at h;cases h;exact h
  refine wpAny_bind (lR (h1.ext fun o e=>sa.extBut _ _ D.i1z e) (g1.ext fun o e=>sa.extBut _ _ D.l1z e) hx fun hb kb sb=>wpAny_pure ?_)
  have Ob:IsPair hb TO a b:=sb.extBut _ _ D.TOi1 (sa.extBut _ _ D.TOz hO)
  refine wpAny_bind (wpAny_seqItems Ob rfl (.u (wpAny_updateSeq_pair Ob fun hc Oc sc=>wpAny_bind (wpAny_letGo .b9))))
  refine wpAny_bind (.q i2)
  refine wpAny_bind (sQ hh (h2.ext fun o e=>sc.extBut _ _ D.TOi2.symm (sb.extBut _ _ D.i12.symm (sa.extBut _ _ D.i2z e))) (g2.ext fun o e=>sc.extBut _ _ D.l2TO (sb.extBut _ _ D.l2i1 (sa.extBut _ _ D.l2z e))) hy fun hd e sd eo=>?_)
  obtain⟨oe,ho,hk⟩:=eo
  have zd:IsZip hd z TI TO .ellipsis:=sd _ _ D.i2z.symm (sc.extBut _ _ D.TOz.symm (sb.extBut _ _ D.i1z.symm za))
  have ne:e≠z:=fun q=>by subst q;rw [zd] at ho;cases ho;simp at hk
  exact wpAny_setField_rec zd .h fun hf _ sf=>hE hf e (fun c o n1 n2 n3 n4 q=>sf.extBut _ _ n1 (sd _ _ n4 (sc.extBut _ _ n2 (sb.extBut _ _ n3 (sa.extBut _ _ n1 q))))) ⟨oe,sf.extBut _ _ ne ho,hk⟩
theorem yE {Q:Option Value->Shared->Prop}(D:.d5)(hz:IsZip s.heap z TI TO .none)(hI:.eU)(hO:IsPair s.heap TO a b)
  (h1:gC c1 s.heap i1 l1 k) (h2:gC c2 s.heap i2 l2 k) (g1:jU c1 s.heap l1 xs) (g2:jU c2 s.heap l2 ys) (hx:xs[k]? = some x) (hy:ys[k]? = some y)
  (hQ:∀h',IsZip h' z TI TO (rawInt s.heap.objs.size)->IsPair h' TO x y->gC c1 h' i1 l1 (k+1)->gC c2 h' i2 l2 (k+1)->IsPair h' s.heap.objs.size x y ->
   .a4->Q (some .b7) { s with heap:=h' }):wpAny .M A (pyNext (.c z)) Q E s:=by
 have hT:s.TypeIs (.c z) "zip" := ⟨_,hz,rfl⟩
 unfold pyNext
 exact wpAny_bind (wpAny_attempt (wpAny_callSpecial?_slot (name:=Str.ofString "__next__") hT F.slot_zip_next (wpAny_call_entry F.slot_zip_next hT F.entry_zip_next
  (Ik D hz hI hO h1 h2 g1 g2 hx hy fun h' a1 a2 a3 a4 a5 a6=>wpAny_pure (hQ h' a1 a2 a3 a4 a5 a6)) (F.args_zip_next_1 _))))
theorem AO {Q:Option Value->Shared->Prop}(hh:A.handled=none)(D:.d5)(hz:IsZip s.heap z TI TO .none)(hI:.eU)(hO:IsPair s.heap TO a b)
  (h1:gC c1 s.heap i1 l1 k) (h2:gC c2 s.heap i2 l2 k) (g1:jU c1 s.heap l1 xs) (g2:jU c2 s.heap l2 ys) (hend:xs[k]? = none\/ys[k]? = none)
  (hQ:∀h',.a4->Q none { s with heap:=h' }):wpAny .M A (pyNext (.c z)) Q E s:=by
 have hT:s.TypeIs (.c z) "zip" := ⟨_,hz,rfl⟩
 unfold pyNext
 refine wpAny_bind (wpAny_attempt (wpAny_callSpecial?_slot (name:=Str.ofString "__next__") hT F.slot_zip_next (wpAny_call_entry F.slot_zip_next hT F.entry_zip_next
  (Kp hh D hz hI hO h1 h2 g1 g2 hend fun h' e hk eo=>?_) (F.args_zip_next_1 _))))
 obtain⟨o,ho,hc⟩:=eo
 exact wpAny_bind (wpAny_isInstance (T := "StopIteration") (b:=true) ⟨o,ho,hc⟩ isSubtype_stop (.V (hQ _ hk)))
end
def BE (b:Bool)(l:Addr):Obj:=match b with
 |true=>{ cls:=.type "list_iterator", data:=.fields #[.ref l,.int 0 0] }
 |false=>{ cls:=.type "tuple_iterator", data:=.fields #[.ref l,.int 0 0] }
theorem CV {b:Bool}{l it:Addr}{h:Heap}(e:h.get? it=some (BE b l)):gC b h it l 0:=by
 cases b with
 |true=>exact⟨_,e,rfl,rfl⟩
 |false=>exact⟨_,e,rfl,rfl⟩
abbrev Qj (h:Heap)(c1:Bool)(l1:Addr):Heap:=h.push (BE c1 l1)
abbrev Qk (h:Heap)(c1 c2:Bool)(l1 l2:Addr):Heap:=(Qj h c1 l1).push (BE c2 l2)
noncomputable abbrev Ql (h:Heap)(c1 c2:Bool)(l1 l2:Addr):Heap:=(Qk h c1 c2 l1 l2).push { cls:=.type "tuple", data:=.seq #[.ref h.objs.size,.ref (Qj h c1 l1).objs.size] }
noncomputable abbrev Qn (h:Heap)(c1 c2:Bool)(l1 l2:Addr):Heap:=(Ql h c1 c2 l1 l2).push { cls:=.type "tuple", data:=.seq #[.none,.none] }
noncomputable abbrev NA (h:Heap)(c1 c2:Bool)(l1 l2:Addr):Heap:=(Qn h c1 c2 l1 l2).push { cls:=.type "zip", data:=.fields #[.none,.bool false,.bool false,.ref (Qk h c1 c2 l1 l2).objs.size,.ref (Ql h c1 c2 l1 l2).objs.size] }
abbrev Fe (c1 c2:Bool)(l1 l2:Addr)(xs ys:.cK):Prop:=Meets (Builtin.«zip.__new__» ⟨[.type "zip", .ref l1,.ref l2],[]⟩) (fun _ R s=>jU c1 s.heap l1 xs/\jU c2 s.heap l2 ys /\
   R (.ok (.ret (.ref (Qn s.heap c1 c2 l1 l2).objs.size))) { s with heap:=NA s.heap c1 c2 l1 l2 })
theorem Cd (l1 l2:Addr)(xs ys:.cK):Fe true true l1 l2 xs ys:=.of_wp fun prog w A R s h=>by
 obtain⟨hp,g,d,tk,os⟩:=s
 obtain⟨q1,q2,h⟩:=h
 have hsub:=sub_zip
 have p1:Heap.IsList .eS l1 xs:=q1
 have p2:Heap.IsList (Shared.heap ⟨hp.push { cls:=.type "list_iterator", data:=.fields #[.ref l1,.int 0 0] },g,d,tk,os⟩) l2 ys:=Heap.IsList.push q2 _
 wp_walk using wpAny_pyIter_list p1,wpAny_pyIter_list p2
 exact⟨_,rfl,h⟩
theorem Cc (l1 l2:Addr)(xs ys:.cK):Fe true false l1 l2 xs ys:=.of_wp fun prog w A R s h=>by
 obtain⟨hp,g,d,tk,os⟩:=s
 obtain⟨q1,q2,h⟩:=h
 have hsub:=sub_zip
 have p1:Heap.IsList .eS l1 xs:=q1
 have p2:Heap.IsTuple (Shared.heap ⟨hp.push { cls:=.type "list_iterator", data:=.fields #[.ref l1,.int 0 0] },g,d,tk,os⟩) l2 ys:=Heap.IsTuple.push q2 _
 wp_walk using wpAny_pyIter_list p1,wpAny_pyIter_tuple p2
 exact⟨_,rfl,h⟩
theorem Cb (l1 l2:Addr)(xs ys:.cK):Fe false true l1 l2 xs ys:=.of_wp fun prog w A R s h=>by
 obtain⟨hp,g,d,tk,os⟩:=s
 obtain⟨q1,q2,h⟩:=h
 have hsub:=sub_zip
 have p1:Heap.IsTuple .eS l1 xs:=q1
 have p2:Heap.IsList (Shared.heap ⟨hp.push { cls:=.type "tuple_iterator", data:=.fields #[.ref l1,.int 0 0] },g,d,tk,os⟩) l2 ys:=Heap.IsList.push q2 _
 wp_walk using wpAny_pyIter_tuple p1,wpAny_pyIter_list p2
 exact⟨_,rfl,h⟩
theorem Ca (l1 l2:Addr)(xs ys:.cK):Fe false false l1 l2 xs ys:=.of_wp fun prog w A R s h=>by
 obtain⟨hp,g,d,tk,os⟩:=s
 obtain⟨q1,q2,h⟩:=h
 have hsub:=sub_zip
 have p1:Heap.IsTuple .eS l1 xs:=q1
 have p2:Heap.IsTuple (Shared.heap ⟨hp.push { cls:=.type "tuple_iterator", data:=.fields #[.ref l1,.int 0 0] },g,d,tk,os⟩) l2 ys:=Heap.IsTuple.push q2 _
 wp_walk using wpAny_pyIter_tuple p1,wpAny_pyIter_tuple p2
 exact⟨_,rfl,h⟩
theorem vh (c1 c2:Bool)(l1 l2:Addr)(xs ys:.cK):Fe c1 c2 l1 l2 xs ys:=by
 cases c1<;>cases c2
 ·exact Ca l1 l2 xs ys
 ·exact Cb l1 l2 xs ys
 ·exact Cc l1 l2 xs ys
 ·exact Cd l1 l2 xs ys
section
variable {prog:.am}{w:World}{A:Around}{E:.m}{s:Shared}
theorem Fn {c1 c2:Bool}{Q:.m}(q1:jU c1 s.heap l1 xs)(q2:jU c2 s.heap l2 ys)
  (h:∀h',IsZip h' (s.heap.objs.size+4) .c7 (s.heap.objs.size+3) .none->IsPair h' .c7 .b7 (.c .ax) ->
   IsPair h' (s.heap.objs.size+3) .none .none->gC c1 h' s.heap.objs.size l1 0->gC c2 h' .ax l2 0->(∀c o,s.heap.get? c=some o->h'.get? c=some o)->Q (.c (s.heap.objs.size+4)) { s with heap:=h' }):
  wpAny .M A (call (.type "zip") [.ref l1,.ref l2]) Q E s:=by
 refine callType_new F.called_zip .f (F.typeCall_zip_2 _ _) (F.newCall_zip_2 _ _) (fun obj=>F.args_object_init_3 obj _ _) F.entry_zip_new (vh c1 c2 l1 l2 xs ys) ⟨q1,q2,?_⟩
 have z1:(Qj s.heap c1 l1).objs.size=s.heap.objs.size+1:=Heap.size_push ..
 have z2:(Qk s.heap c1 c2 l1 l2).objs.size=s.heap.objs.size+2:=by rw [Heap.size_push,z1]
 have z3:(Ql s.heap c1 c2 l1 l2).objs.size=s.heap.objs.size+3:=by rw [Heap.size_push,z2]
 have z4:(Qn s.heap c1 c2 l1 l2).objs.size=s.heap.objs.size+4:=by rw [Heap.size_push,z3]
 have p:∀{h:Heap} {o:Obj} {c:Addr} {u:Obj},h.get? c=some u->(h.push o).get? c=some u:=fun e=>Heap.get?_push_of_some _ e
 have n1:(BE c1 l1).isFreed=false:=by cases c1<;>rfl
 have n2:(BE c2 l2).isFreed=false:=by cases c2<;>rfl
 have g5:(NA s.heap c1 c2 l1 l2).get? (Qn s.heap c1 c2 l1 l2).objs.size=some _:=Heap.get?_push_size _ rfl
 have g4:(NA s.heap c1 c2 l1 l2).get? (Ql s.heap c1 c2 l1 l2).objs.size=some _:=p (.aw rfl)
 have g3:(NA s.heap c1 c2 l1 l2).get? (Qk s.heap c1 c2 l1 l2).objs.size=some _:=p (p (.aw rfl))
 have g2:(NA s.heap c1 c2 l1 l2).get? (Qj s.heap c1 l1).objs.size=some (BE c2 l2):=p (p (p (.aw n2)))
 have g1:(NA s.heap c1 c2 l1 l2).get? s.heap.objs.size=some (BE c1 l1):=p (p (p (p (.aw n1))))
 show _/\_
 rw [z2,z3,z4] at g5
 rw [z1,z2] at g3
 rw [z3] at g4
 rw [z1] at g2
 rw [z4]
 exact⟨⟨_,g5,rfl⟩,h _ g5 g3 g4 (CV g1) (CV g2) fun c o x=>p (p (p (p (p x))))⟩
end
def yN (b:Bool)(K:.l)(H:Hp)(a:Addr)(xs:List V):Prop:=match b with
 |true=>gR K H a xs
 |false=>mM K H a xs
def Qw (K:.l)(c1 c2:Bool)(l1 l2:Addr):It:=
  ⟨fun i H=>∃xs ys x y,yN c1 K H l1 xs/\yN c2 K H l2 ys/\xs[i]? = some x/\ys[i]? = some y,
   fun i H v H'=>∃p x y,v=.ref p/\H p=none/\H'=upd H p (.tup [x,y])/\(∀xs,yN c1 K H l1 xs->xs[i]? = some x)/\∀ys,yN c2 K H l2 ys->ys[i]? = some y,
   fun i H=>∃xs ys,yN c1 K H l1 xs/\yN c2 K H l2 ys/\(xs.length≤i\/ys.length≤i)⟩
section
variable {X:Cx}{pins:.s}{σ:L2.St}{H:Hp}{s:Shared}
theorem kR {b:Bool}(I:.u)(h:yN b X.K H a xs):∃its:List Value,Vals xs its/\jU b s.heap a its.toArray:=by
 cases b with
 |true=>obtain⟨its,r,p,_⟩:=I.list h;exact⟨its,r,p.isList⟩
 |false=>obtain⟨its,r,p,_⟩:=I.tuple h;exact⟨its,r,p⟩
theorem Dz {b:Bool}(I:.u)(h:yN b X.K H a xs)(h':yN b X.K H a ys):xs=ys:=by
 cases b with
 |true=>exact I.list_inj h h'
 |false=>exact I.tuple_inj h h'
end
structure R0 (c1 c2:Bool)(z TI TO i1 i2 l1 l2:Addr)(i:Nat)(h:Heap):Prop where
 hz:IsZip h z TI TO .none
 hI:IsPair h TI (.c i1) (.c i2)
 hO:∃a b,IsPair h TO a b
 h1:gC c1 h i1 l1 i
 h2:gC c2 h i2 l2 i
theorem ud {h':Heap}{fp:.aj}(I:.u)(hf:∀b∈fp,ri X pins H b)(k:∀b o,b∉fp->s.heap.get? b=some o->h'.get? b=some o):Inv X pins σ H { s with heap:=h' }:=by
 have nit:∀b u,H b=some u->b∉fp:=fun b u e z=>by rw [(hf b z).1] at e;cases e
 refine I.step (g':=s.gens) (d':=s.drawn) (t':=s.toks) (ch:=fp) (fun b hb=>?_) (fun b o _ _ hc e _=>k b o hc e) (fun b o _ _ hc e _=>⟨o.slots,k b o hc e⟩) (fun _ _ _ _ n=>n)
  (fun b o hc e=>⟨o,k b o hc e⟩) (fun _ _ e=>e) (fun _ _ _ e=>e) (fun b ps e=>⟨#[],by rw [e];simp⟩) (fun m hm=>?_) (fun b u e=>?_) I.bare
 ·obtain⟨_,f1,_,f3,f4,f5⟩:=hf b hb
  exact⟨f3,f1,f4,f5⟩
 ·obtain⟨o,es,ep,ho,r⟩:=hm
  exact⟨o,es,ep,k _ o (fun z=>(hf _ z).2.1 rfl) ho,r⟩
 ·refine (I.hok b u e).stay (fun c v hc q=>k c v ?_ q) (fun _ q=>q) fun _ _ q=>q
  rcases hc with z | z
  ·rw [z];exact nit b u e
  ·exact nit c _ z
theorem Ie {P:.am}{w:World}{K:.l}{elts:.az}{kx:Nat}{px:Pos}{c1 c2:Bool}{z TI TO i1 i2 l1 l2:Addr}(D:.d5):
  Turn P w K .ep (Qw K c1 c2 l1 l2) [z,TI,TO,i1,i2] z (R0 c1 c2 z TI TO i1 i2 l1 l2) where
 mem:=.h
 obj:=fun i h st b hb=>by
  simp only [List.mem_cons,List.not_mem_nil,or_false] at hb
  rcases hb with rfl | rfl | rfl | rfl | rfl
  ·exact⟨_,st.hz,fun v q=>nomatch (show Data.fields _=Data.cell v from q)⟩
  ·exact⟨_,st.hI,fun v q=>nomatch (show Data.seq _ _=Data.cell v from q)⟩
  ·obtain⟨a,b,e⟩:=st.hO
   exact⟨_,e,fun v q=>nomatch (show Data.seq _ _=Data.cell v from q)⟩
  ·exact st.h1.obj
  ·exact st.h2.obj
 keep:=fun i h h' st k=>by
  obtain⟨a,b,e⟩:=st.hO
  exact⟨k z .h _ st.hz,k TI .h _ st.hI,⟨a,b,k TO .h _ e⟩,st.h1.ext fun o e=>k i1 .h o e,st.h2.ext fun o e=>k i2 .h o e⟩
 item:=fun X hP hw hK hc i pins s σ H E I hf st hg=>by
  subst hP hw hK
  obtain⟨xs,ys,x,y,q1,q2,g1,g2⟩:=hg
  obtain⟨its,r1,p1⟩:=kR I q1
  obtain⟨jts,r2,p2⟩:=kR I q2
  obtain⟨u,e1,ru⟩:=r1.get g1
  obtain⟨v,e2,rv⟩:=r2.get g2
  obtain⟨a,b,hO⟩:=st.hO
  refine yE D st.hz st.hI hO st.h1 st.h2 p1 p2 (x:=u) (y:=v) (by simpa using e1) (by simpa using e2) fun h' a1 a2 a3 a4 a5 a6=>⟨_,rfl,?_⟩
  refine wpAny_letOwnedTupleGo_zip (s:={ s with heap:=h' }) a1 fun h2 b1 b2=>?_
  have kp:∀b o,b∉[z,TI,TO,i1,i2]->s.heap.get? b=some o->h2.get? b=some o:=fun b o hb e=>by
   simp only [List.mem_cons,List.not_mem_nil,or_false,not_or] at hb
   exact b2.extBut _ _ hb.1 (a6 b o hb.1 hb.2.2.1 hb.2.2.2.1 hb.2.2.2.2 e)
  have lz:z<s.heap.objs.size:=Heap.lt_size st.hz
  have pr:IsPair h2 s.heap.objs.size u v:=b2.extBut _ _ (zaU lz) a5
  have fr:H s.heap.objs.size=none:=I.hok.fresh .bU
  have hokA:ly X.prog X.w (.z (.tup [x,y])) h2:=by
   intro c o e
   by_cases hcz:c=s.heap.objs.size
   ·subst hcz
    rw [aQ] at e;cases e
    exact⟨by show 2≤sizeLine;decide,[u,v],.cons ru (.aq rv),_,pr,rfl,_,rfl⟩
   ·rw [aE hcz] at e
    have nf:∀d o',H d=some o'->d∉[z,TI,TO,i1,i2]:=fun d o' ed hd=>by rw [(hf d hd).1] at ed;cases ed
    have up:∀d o',H d=some o'->upd H s.heap.objs.size (.tup [x,y]) d=some o':=fun d o' ed=>by rw [aE (bx ed fr)];exact ed
    refine (I.hok c o e).stay (fun d v' hd q=>kp d v' ?_ q) (fun d q=>up d _ q) fun d xs q=>up d _ q
    rcases hd with rfl | hd
    ·exact nf _ o e
    ·exact nf d _ hd
  have J:Inv X pins σ (.z (.tup [x,y])) { s with heap:=h2 }:=by
   have ne:∀b o,s.heap.get? b=some o->b≠s.heap.objs.size:=fun b o e=>zaq .aF
   refine I.step (g':=s.gens) (d':=s.drawn) (t':=s.toks) (ch:=[z,TI,TO,i1,i2]) (fun b hb=>?_) (fun b o _ _ hc e _=>kp b o hc e) .eP (fun b o _ e n=>by rw [aE (ne b o e)];exact n)
    (fun b o hc e=>⟨o,kp b o hc e⟩) (fun b xs e=>by rw [aE (bx e fr)];exact e) (fun b o u e=>by rw [aE (bx e fr)];exact e) (fun b ps e=>⟨#[],by rw [aE (bx e fr),e];simp⟩) (fun m hm=>?_) hokA I.bare
   ·obtain⟨_,f1,_,f3,f4,f5⟩:=hf b hb
    exact⟨f3,f1,f4,f5⟩
   ·obtain⟨o,es,ep,ho,r⟩:=hm
    exact⟨o,es,ep,kp _ o (fun q=>(hf _ q).2.1 rfl) ho,r⟩
  refine⟨.ref s.heap.objs.size,_,J,rfl,⟨_,x,y,rfl,fr,rfl,fun xs' h=>by rw [Dz I h q1];exact g1,fun ys' h=>by rw [Dz I h q2];exact g2⟩,?_,fun b hb=>?_⟩
  ·exact⟨b1,b2.extBut _ _ D.TIz (a6 _ _ D.TIz D.TITO D.TIi1 D.TIi2 st.hI),⟨_,_,b2.extBut _ _ D.TOz a2⟩,a3.ext fun o e=>b2.extBut _ _ D.i1z e,a4.ext fun o e=>b2.extBut _ _ D.i2z e⟩
  ·obtain⟨o,e,_⟩:∃o,s.heap.get? b=some o/\True:=by
    simp only [List.mem_cons,List.not_mem_nil,or_false] at hb
    rcases hb with rfl | rfl | rfl | rfl | rfl
    ·exact⟨_,st.hz,trivial⟩
    ·exact⟨_,st.hI,trivial⟩
    ·exact⟨_,hO,trivial⟩
    ·obtain⟨o,e,_⟩:=st.h1.obj;exact⟨o,e,trivial⟩
    ·obtain⟨o,e,_⟩:=st.h2.obj;exact⟨o,e,trivial⟩
   rw [aE (zaq .aF)]
   exact (hf b hb).1
 done:=fun X hP hw hK hc i pins s σ H E I hf st hg=>by
  subst hP hw hK
  obtain⟨xs,ys,q1,q2,g⟩:=hg
  obtain⟨its,r1,p1⟩:=kR I q1
  obtain⟨jts,r2,p2⟩:=kR I q2
  obtain⟨a,b,hO⟩:=st.hO
  have n1:=r1.length
  have n2:=r2.length
  refine AO .cX D st.hz st.hI hO st.h1 st.h2 p1 p2 ?_ fun h' k=>⟨rfl,ud I hf fun b o hb e=>?_⟩
  ·rcases g with g | g
   ·exact .inl .j
   ·exact .inr .j
  ·simp only [List.mem_cons,List.not_mem_nil,or_false,not_or] at hb
   exact k b o hb.1 hb.2.2.1 hb.2.2.2.1 hb.2.2.2.2 e
 self:=fun _ _ _ _ _ st h=>wpAny_pyIter_zip st.hz h
def O7:T->Option (Bool×List T)
 | .lst ts=>some (true,ts)
 | .scr ts=>some (true,ts)
 | .tup ts=>some (false,ts)
 |_=>none
theorem Dy {K:.l}{F:Hp}{t:T}{v:V}{b:Bool}{ts:List T}(r:Rep K F t v)(e:O7 t=some (b,ts)):∃a xs,v=.ref a/\yN b K F a xs/\aT K F ts xs:=by
 cases t<;>simp only [O7] at e<;>cases e
 ·exact r
 ·obtain⟨a,xs,h1,h2,h3⟩:=r
  exact⟨a,xs,h1,gR.of h2,h3⟩
 ·exact r
theorem yN.same {b:Bool}{K:.l}{H H':Hp}{a:Addr}{xs:List V}(s:aV H H')(h:yN b K H a xs):yN b K H' a xs:=by
 cases b with
 |true=>exact s.seq h
 |false=>exact cm s h
def iQ:List T->List T->List T
 |x::xs,y::ys=>.tup [x,y]::iQ xs ys
 |_,_=>[]
theorem qq:∀(xs ys:List T),(iQ xs ys).length=min xs.length ys.length
 |[],_=>by simp [iQ]
 |_::_,[]=>by simp [iQ]
 |x::xs,y::ys=>by simp [iQ,qq xs ys]
theorem um:∀(xs ys:List T) (i:Nat) (t:T),(iQ xs ys)[i]? = some t->∃x y,xs[i]? = some x/\ys[i]? = some y/\t=.tup [x,y]
 |[],_,i,t,e=>by simp [iQ] at e
 |_::_,[],i,t,e=>by simp [iQ] at e
 |x::xs,y::ys,0,t,e=>by simp [iQ] at e;exact⟨x,y,rfl,rfl,e.symm⟩
 |x::xs,y::ys,i+1,t,e=>by
  obtain⟨a,b,h1,h2,h3⟩:=um xs ys i t (by simpa [iQ] using e)
  exact⟨a,b,by simpa using h1,by simpa using h2,h3⟩
theorem ET {K:.l}{F:Hp}{c1 c2:Bool}{l1 l2:Addr}{xs ys:List V}{ts us:List T}(h1:yN c1 K F l1 xs)(r1:aT K F ts xs)(h2:yN c2 K F l2 ys)(r2:aT K F us ys):Walks K F (iQ ts us) (Qw K c1 c2 l1 l2):=by
 refine⟨fun i t F1 H1 e s1 s2=>?_,fun i t F1 H1 x H2 e s1 s2 y=>?_,fun F1 H1 s1 s2=>⟨xs,ys,h1.same .bq,h2.same .bq,?_⟩⟩
 ·obtain⟨a,b,e1,e2,rfl⟩:=um ts us i t e
  obtain⟨v,g1,_⟩:=r1.get e1
  obtain⟨w,g2,_⟩:=r2.get e2
  exact⟨xs,ys,v,w,h1.same .bq,h2.same .bq,g1,g2⟩
 ·obtain⟨p,v,w,rfl,hp,rfl,q1,q2⟩:=y
  obtain⟨a,b,e1,e2,rfl⟩:=um ts us i t e
  obtain⟨v',g1,k1⟩:=r1.get e1
  obtain⟨w',g2,k2⟩:=r2.get e2
  have m1:=q1 xs (h1.same .bq)
  have m2:=q2 ys (h2.same .bq)
  rw [g1] at m1;cases m1
  rw [g2] at m2;cases m2
  have gr:=bw.new (.tup [v,w]) s2 hp
  exact⟨_,gr,p,_,rfl,mM.of aQ,v,[w],rfl,Rep.mono (s1.trans gr.sF) k1,w,[],rfl,Rep.mono (s1.trans gr.sF) k2,rfl⟩
 ·rw [qq,r1.length,r2.length]
  omega
def lH (g:FA):FA:=fun τ=>(g τ).bind fun p=>match p.1 with
 |[a,b]=>(O7 a).bind fun x=>(O7 b).bind fun y=>some (iQ x.2 y.2,p.2)
 |_=>none
theorem BV {X:Cx}{a b:Expr}{p pos:Pos}{ga:FA}{elts:.az}{kx:Nat}{px:Pos}(hg:Gl X "zip")(hm:X.mg "zip" = none)(ha:SA X [a,b] ga)(hs:starEach [a,b] X.env=(.i a)::starEach [b] X.env:=by rfl)
  (hs2:(backTo pos (starEach [b] X.env)).any (·.1)=false:=by rfl):SI X .ep (.Call (.Name "zip" p) [a,b] [] pos) (lH ga):=by
 intro Y0 Y9 pins s σ H R I ⟨F,τ,ts,τ',E,e1,q⟩
 obtain⟨⟨x,τ1⟩,e2,e1⟩:=bind_some e1
 dsimp only at e1
 split at e1
 ·next t u =>
  obtain⟨⟨c1,us⟩,e3,e1⟩:=bind_some e1
  obtain⟨⟨c2,ws⟩,e4,e1⟩:=bind_some e1
  cases e1
  refine Call_ (pI I hg hm (show bootBuiltins "zip" = some (.type "zip") from rfl) (za5 (cR (ha Y0 Y9 pos pins s σ H (fun vs H'=>∃l1 l2 xs ys,vs=[.ref l1,.ref l2]/\yN c1 X.K H' l1 xs/\yN c2 X.K H' l2 ys/\R (Qw X.K c1 c2 l1 l2) H') I ⟨F,τ,_,_,E,e2,fun F' H' vs E' s' r'=>?_⟩) fun vs s1 ⟨ws',H1,I1,r1,q1⟩=>?_) hs hs2))
  ·obtain⟨v1,r1,rfl,k1,v2,r2,rfl,k2,rfl⟩:=r'
   obtain⟨l1,xs,rfl,h1,h2⟩:=Dy k1 e3
   obtain⟨l2,ys,rfl,h3,h4⟩:=Dy k2 e4
   exact⟨l1,l2,xs,ys,rfl,h1.same E'.g.fh,h3.same E'.g.fh,q F' H' _ E' s' (ET h1 h2 h3 h4)⟩
  ·obtain⟨l1,l2,xs,ys,rfl,h1,h2,q1⟩:=q1
   cases r1 with
   |cons ra rr =>
    cases rr with
    |cons rb rr =>
     cases rr;cases ra;cases rb
     obtain⟨its,_,p1⟩:=kR I1 h1
     obtain⟨jts,_,p2⟩:=kR I1 h2
     refine Fn p1 p2 fun h' a1 a2 a3 a4 a5 kp=>wpAny_pyIter_zip (s:={ s1 with heap:=h' }) a1 ?_
     have lt:∀{c:Bool} {l:Addr} {zs:.cK},jU c s1.heap l zs->l<s1.heap.objs.size:=fun {c l zs} h=>by
      cases c with
      |true=>obtain⟨o,e,_⟩:=h;exact Heap.lt_size e
      |false=>obtain⟨o,e,_⟩:=h;exact Heap.lt_size e
     have n1:@LT.lt Nat _ l1 s1.heap.objs.size:=lt p1
     have n2:@LT.lt Nat _ l2 s1.heap.objs.size:=lt p2
     have J:Inv X pins σ H1 { s1 with heap:=h' }:=I1.kept (t':=s1.toks) kp
     refine⟨_,[_,_,_,_,_],_,_,H1,rfl,J,Ie (c1:=c1) (c2:=c2) (z:=s1.heap.objs.size+4) (TI:=s1.heap.objs.size+2) (TO:=s1.heap.objs.size+3) (i1:=s1.heap.objs.size) (i2:=s1.heap.objs.size+1) (l1:=l1) (l2:=l2) ?_,⟨a1,a2,⟨_,_,a3⟩,a4,a5⟩,fun b hb=>?_,q1⟩
     ·constructor<;>(refine (?_:@Ne Nat _ _);omega)
     ·have hb':s1.heap.objs.size≤b:=by
       simp only [List.mem_cons,List.not_mem_nil,or_false] at hb
       rcases hb with rfl | rfl | rfl | rfl | rfl<;>omega
      exact I1.fpOk hb' (I1.hok.fresh hb')
 ·cases e1
theorem zE:bN [.non,.ty "int"]=some .Q:=rfl
theorem xr:bN [.non,.ty "bool"]=some .Q:=rfl
theorem zF:bN [.non,.ty "str"]=some .Q:=rfl
theorem xv:bN [.non,.ty "list"]=some .Q:=rfl
theorem uF:bN [.non,.ty "tuple"]=some .Q:=rfl
theorem xu:bN [.non,.ty "dict"]=some .Q:=rfl
theorem BA:bN [.non,.tup .cd]=some .Q:=rfl
theorem Bu {b:Bool}:bN [(.bl b),.ty "int"]=some .bK:=rfl
theorem zv {b:Bool}:bN [(.bl b),.ty "bool"]=some .bK:=rfl
theorem Bw {b:Bool}:bN [(.bl b),.ty "str"]=some .Q:=rfl
theorem zx {b:Bool}:bN [(.bl b),.ty "list"]=some .Q:=rfl
theorem xg {b:Bool}:bN [(.bl b),.ty "tuple"]=some .Q:=rfl
theorem zw {b:Bool}:bN [(.bl b),.ty "dict"]=some .Q:=rfl
theorem En {b:Bool}:bN [(.bl b),.tup .cd]=some .Q:=rfl
theorem qi {i:Int}:bN [(.j i),.ty "int"]=some .bK:=rfl
theorem oI {i:Int}:bN [(.j i),.ty "bool"]=some .Q:=rfl
theorem zB {i:Int}:bN [(.j i),.ty "str"]=some .Q:=rfl
theorem xm {i:Int}:bN [(.j i),.ty "list"]=some .Q:=rfl
theorem uD {i:Int}:bN [(.j i),.ty "tuple"]=some .Q:=rfl
theorem xk {i:Int}:bN [(.j i),.ty "dict"]=some .Q:=rfl
theorem By {i:Int}:bN [(.j i),.tup .cd]=some .Q:=rfl
theorem zI:bN [.fH,.ty "int"]=some .Q:=rfl
theorem xD:bN [.fH,.ty "bool"]=some .Q:=rfl
theorem zJ:bN [.fH,.ty "str"]=some .bK:=rfl
theorem xF:bN [.fH,.ty "list"]=some .Q:=rfl
theorem uH:bN [.fH,.ty "tuple"]=some .Q:=rfl
theorem xE:bN [.fH,.ty "dict"]=some .Q:=rfl
theorem BC:bN [.fH,.tup .cd]=some .Q:=rfl
theorem zK:bN [(.tup ts),.ty "int"]=some .Q:=rfl
theorem xG:bN [(.tup ts),.ty "bool"]=some .Q:=rfl
theorem zL:bN [(.tup ts),.ty "str"]=some .Q:=rfl
theorem xI:bN [(.tup ts),.ty "list"]=some .Q:=rfl
theorem mZ:bN [(.tup ts),.ty "tuple"]=some .bK:=rfl
theorem xH:bN [(.tup ts),.ty "dict"]=some .Q:=rfl
theorem BD:bN [(.tup ts),.tup .cd]=some .bK:=rfl
theorem zC:bN [.dX,.ty "int"]=some .Q:=rfl
theorem xo:bN [.dX,.ty "bool"]=some .Q:=rfl
theorem zD:bN [.dX,.ty "str"]=some .Q:=rfl
theorem xq:bN [.dX,.ty "list"]=some .bK:=rfl
theorem uE:bN [.dX,.ty "tuple"]=some .Q:=rfl
theorem xp:bN [.dX,.ty "dict"]=some .Q:=rfl
theorem Bz:bN [.dX,.tup .cd]=some .bK:=rfl
theorem zG:bN [(.scr ts),.ty "int"]=some .Q:=rfl
theorem xy:bN [(.scr ts),.ty "bool"]=some .Q:=rfl
theorem zH:bN [(.scr ts),.ty "str"]=some .Q:=rfl
theorem xC:bN [(.scr ts),.ty "list"]=some .bK:=rfl
theorem uG:bN [(.scr ts),.ty "tuple"]=some .Q:=rfl
theorem xB:bN [(.scr ts),.ty "dict"]=some .Q:=rfl
theorem BB:bN [(.scr ts),.tup .cd]=some .bK:=rfl
theorem zy:bN [.dic,.ty "int"]=some .Q:=rfl
theorem xh:bN [.dic,.ty "bool"]=some .Q:=rfl
theorem zA:bN [.dic,.ty "str"]=some .Q:=rfl
theorem xj:bN [.dic,.ty "list"]=some .Q:=rfl
theorem uC:bN [.dic,.ty "tuple"]=some .Q:=rfl
theorem xi:bN [.dic,.ty "dict"]=some .bK:=rfl
theorem Bx:bN [.dic,.tup .cd]=some .Q:=rfl
theorem gQ (i j:Int):eJ (.j i) (.j j)=some (.an (i=j)):=by
 show some (T.bl (i == j))=_
 rw [zbl]
theorem IW (i j:Int):qg (.j i) (.j j)=some (.bl (!decide (i=j))):=by
 show some (T.bl (!(i == j)))=_
 rw [zbl]
theorem LD (i j:Bool):eJ (.bl i) (.bl j)=some (.bl (i == j)):=rfl
theorem LG (i j:Bool):qg (.bl i) (.bl j)=some (.bl (!(i == j))):=rfl
theorem DJ (i j:Int):vk i j ↔ (¬ j=0/\j.natAbs<B):=Iff.rfl
theorem DK (i j:Int):Ce i j ↔ (i.natAbs<B/\j.natAbs<B):=Iff.rfl
theorem Iu (i j:Int):Pw i j ↔ ¬ j=0:=Iff.rfl
theorem aW {n:Nat}(h:n≤1000):n≤sizeLine:=zbN (bT h)
theorem Sh:(0:Nat)≤sizeLine:=aW .f
theorem Si:(1:Nat)≤sizeLine:=aW .f
theorem RK:(2:Nat)≤sizeLine:=aW .f
theorem RL:(3:Nat)≤sizeLine:=aW .f
theorem Sj:(4:Nat)≤sizeLine:=aW .f
theorem Gj {x y:T}:bz (.tup [x,y]) (.j 0)=some x:=rfl
theorem Gk {x y:T}:bz (.tup [x,y]) (.j 1)=some y:=rfl
theorem Gh {x y:T}:bz (.lst [x,y]) (.j 0)=some x:=rfl
theorem Gi {x y:T}:bz (.lst [x,y]) (.j 1)=some y:=rfl
theorem rV (a:Int):rT [.int a]=some (.j (a.natAbs:Int)):=by
 have e:(if a<0 then -a else a)=(a.natAbs:Int):=by split<;>omega
 simp only [rT,e]
theorem mO:(2^64:Nat)<B:=.c
theorem zk (a:Int){b:Int}(h:0<b):0≤a.fmod b/\a.fmod b<b:=⟨Int.fmod_nonneg_of_pos _ h,Int.fmod_lt_of_pos _ h⟩
theorem Jm {ns:.dz}{k:Int}(h0:0≤k)(h1:k<(ns.length:Int)):bz (.scr (ns.map T.int)) (.j k)=some (.j (ns.getD k.toNat 0)):=by
 show yG (ns.map T.int) k=_
 obtain⟨j,rfl⟩:=Int.eq_ofNat_of_zero_le h0
 have hk:j<ns.length:=.e
 refine qK ?_
 rw [zaT,zav hk]
 simp [List.getD,List.getElem?_eq_getElem hk]
def pk (env:Env):List (Str×NameKind)->List (Str×Addr)->List (Str×Addr)
 |[],acc=>acc
 |(x,k)::r,acc=>if k == .free then pk env r ((x,(env.cells.lookup x).getD 0)::acc) else pk env r acc
theorem qb (f:Str×NameKind->List (Str×Addr)->Sem (ForInStep (List (Str×Addr))))(hf:∀x k cs,f (x,k) cs=if k == .free then (do let a <- cellOf env x;pure (.yield ((x,a)::cs))) else pure (.yield cs)):
  ∀(names:.cJ) (acc:.cA),(∀y∈names,y.2=.free->∃c,env.cells.lookup y.1=some c)->forIn names acc f=pure (pk env names acc)
 |[],acc,_=>by rw [List.forIn_nil];rfl
 |(x,k)::r,acc,hy=>by
  rw [List.forIn_cons,hf]
  have ih:=qb f hf r
  have hr:∀y∈r,y.2=.free->∃c,env.cells.lookup y.1=some c:=fun z hz=>hy z (zae _ hz)
  cases hk:(k == NameKind.free) with
  |true =>
   obtain⟨c,hc⟩:=hy (x,k) zad (beq_iff_eq.mp hk)
   dsimp only at hc
   simp only [if_true,pk,hc,cellOf,pure_bind,Option.getD_some,hk]
   exact ih _ hr
  |false =>
   simp only [Bool.false_eq_true,if_false,pk,pure_bind,hk]
   exact ih _ hr
theorem kf {env:Env}{scope:Scope}(h:∀y∈scope.names,y.2=.free->∃c,env.cells.lookup y.1=some c):closureFor scope env=pure (pk env scope.names []):=by
 simp only [closureFor]
 rw [qb (env:=env) _ (fun x k cs=>by cases hk:k == NameKind.free<;>simp [hk]) scope.names [] h]
 rfl
theorem wJ {env:Env}:∀(names:.cJ) (acc:.cA) (x:Str) (c:Addr),(∀y∈names,y.2=.free->∃c,env.cells.lookup y.1=some c)->(x,c)∈pk env names acc->(x,c)∈acc\/(env.cells.lookup x=some c/\(x,NameKind.free)∈names)
 |[],acc,x,c,_,h=>.inl h
 |(y,k)::r,acc,x,c,hy,h=>by
  unfold pk at h
  have hr:∀z∈r,z.2=.free->∃c,env.cells.lookup z.1=some c:=fun z hz=>hy z (zae _ hz)
  cases hk:(k == NameKind.free) with
  |true =>
   rw [if_pos hk] at h
   rcases wJ r _ x c hr h with h | h
   ·rcases zan.mp h with h | h
    ·cases h
     obtain⟨c,hc⟩:=hy (y,k) zad (beq_iff_eq.mp hk)
     dsimp only at hc
     refine .inr ⟨by rw [hc];rfl,?_⟩
     rw [beq_iff_eq.mp hk]
     exact zad
    ·exact .inl h
   ·exact .inr ⟨h.1,zae _ h.2⟩
  |false =>
   rw [if_neg (by rw [hk];decide)] at h
   rcases wJ r _ x c hr h with h | h
   ·exact .inl h
   ·exact .inr ⟨h.1,zae _ h.2⟩
theorem fU:∀{l:.cA} {x:Str} {c:Addr},(x,c)∈l->∃d,l.lookup x=some d
 |(y,d)::r,x,c,h=>by
  rw [za0]
  cases hb:x == y with
  |true=>exact⟨d,rfl⟩
  |false =>
   rcases zan.mp h with h | h
   ·cases h;simp at hb
   ·exact fU h
theorem qM:∀(names:.cJ) (acc:.cA) (x:Str),((x,NameKind.free)∈names\/∃c,(x,c)∈acc)->∃c,(x,c)∈pk env names acc
 |[],acc,x,h=>by
  rcases h with h | h
  ·cases h
  ·exact h
 |(y,k)::r,acc,x,h=>by
  unfold pk
  cases hk:(k == NameKind.free) with
  |true =>
   rw [if_pos rfl]
   refine qM r _ x ?_
   rcases h with h | ⟨c,h⟩
   ·rcases zan.mp h with h | h
    ·cases h;exact .inr ⟨_,zad⟩
    ·exact .inl h
   ·exact .inr ⟨c,zae _ h⟩
  |false =>
   rw [if_neg .f]
   refine qM r _ x ?_
   rcases h with h | h
   ·rcases zan.mp h with h | h
    ·cases h;cases hk
    ·exact .inl h
   ·exact .inr h
theorem A5:∀(names:.cJ) (n:Nat) (acc:.cA) (x:Str) (c:Addr),(x,c)∈cellsFrom n names acc->(x,c)∈acc\/(n≤c/\(x,NameKind.cell)∈names)
 |[],n,acc,x,c,h=>.inl h
 |(y,k)::r,n,acc,x,c,h=>by
  unfold cellsFrom at h
  cases hk:(k == NameKind.cell) with
  |true =>
   rw [if_pos hk] at h
   rcases A5 r _ _ x c h with h | ⟨h1,h2⟩
   ·rcases zan.mp h with h | h
    ·cases h
     refine .inr ⟨zak _,?_⟩
     rw [beq_iff_eq.mp hk]
     exact zad
    ·exact .inl h
   ·exact .inr ⟨Nat.le_of_succ_le h1,zae _ h2⟩
  |false =>
   rw [if_neg (by rw [hk];decide)] at h
   rcases A5 r _ _ x c h with h | ⟨h1,h2⟩
   ·exact .inl h
   ·exact .inr ⟨h1,zae _ h2⟩
theorem A4:∀(names:.cJ) (n:Nat) (acc:.cA),(∀x y c,(x,c)∈acc->(y,c)∈acc->x=y)->(∀x c,(x,c)∈acc->@LT.lt Nat _ c n)->∀x y c,(x,c)∈cellsFrom n names acc->(y,c)∈cellsFrom n names acc->x=y
 |[],n,acc,h1,_,x,y,c,h,h'=>h1 x y c h h'
 |(z,k)::r,n,acc,h1,h2,x,y,c,h,h'=>by
  unfold cellsFrom at h h'
  cases hk:(k == NameKind.cell) with
  |true =>
   rw [if_pos hk] at h h'
   refine A4 r (n+1) _ (fun a b d ha hb=>?_) (fun a d ha=>?_) x y c h h'
   ·rcases zan.mp ha with ha | ha<;>rcases zan.mp hb with hb | hb
    ·cases ha;cases hb;rfl
    ·cases ha;exact absurd (h2 _ _ hb) (za1 _)
    ·cases hb;exact absurd (h2 _ _ ha) (za1 _)
    ·exact h1 a b d ha hb
   ·rcases zan.mp ha with ha | ha
    ·cases ha;exact zbj _
    ·exact zaJ (h2 _ _ ha)
  |false =>
   rw [if_neg (by rw [hk];decide)] at h h'
   exact A4 r n acc h1 h2 x y c h h'
theorem rK:∀(names:.cJ) (n:Nat) (acc:.cA) (x:Str),((x,NameKind.cell)∈names\/∃c,(x,c)∈acc)->∃c,(x,c)∈cellsFrom n names acc
 |[],n,acc,x,h=>by
  rcases h with h | h
  ·cases h
  ·exact h
 |(y,k)::r,n,acc,x,h=>by
  unfold cellsFrom
  cases hk:(k == NameKind.cell) with
  |true =>
   rw [if_pos rfl]
   refine rK r _ _ x ?_
   rcases h with h | ⟨c,h⟩
   ·rcases zan.mp h with h | h
    ·cases h;exact .inr ⟨_,zad⟩
    ·exact .inl h
   ·exact .inr ⟨c,zae _ h⟩
  |false =>
   rw [if_neg .f]
   refine rK r _ _ x ?_
   rcases h with h | h
   ·rcases zan.mp h with h | h
    ·cases h;cases hk
    ·exact .inl h
   ·exact .inr h
theorem wI:∀(names:.cJ) (h:Heap) (acc:.cA) (x:Str) (c:Addr),(x,c)∈cellsFrom h.objs.size names acc->(x,c)∈acc\/(pushCells h names).IsCell c none
 |[],h,acc,x,c,m=>.inl m
 |(y,k)::r,h,acc,x,c,m=>by
  unfold cellsFrom at m
  unfold pushCells
  cases hk:(k == NameKind.cell) with
  |true =>
   rw [if_pos hk] at m
   rw [if_pos rfl]
   have m':(x,c)∈cellsFrom (h.push { cls:=.type "cell", data:=.cell none }).objs.size r ((y,h.objs.size)::acc):=by rw [Heap.size_push];exact m
   rcases wI r _ _ x c m' with m | m
   ·rcases zan.mp m with m | m
    ·cases m
     refine .inr ?_
     have q:(h.push { cls:=.type "cell", data:=.cell none }).IsCell h.objs.size none:=⟨_,Heap.get?_push_size _ rfl,rfl⟩
     exact q.keeps fun b o e=>pushCells_keeps r _ b o e
    ·exact .inl m
   ·exact .inr m
  |false =>
   rw [if_neg (by rw [hk];decide)] at m
   rw [if_neg .f]
   exact wI r h acc x c m
def jm (X:Cx)(scope:Scope)(C:Addr)(cs:.cA):Env:=
 { newEnv scope C X.env.globals cs X.env.qual none .none (some X.env) builtinsNs with scope:=relabel scope X.env }
def mX (X:Cx)(scope:Scope)(N':.Y)(C:Addr)(cs:.cA)(Y8:Shared)(Y9:Hp)(fp:.aj)(pins:.s):Cx:=
 { X with N:=N',Y8:=Y8,Y9:=Y9,env:=jm X scope C cs,outer:=X.stack,stack:=X.stack,ex:=fp,fn:=fun x=>scope.names.lookup x == some .cell,pn:=X.pn++pins,xe:=fun _ _=>False }
structure eQ (X:Cx)(scope:Scope):Prop where
 kind:scope.kind=.function
 names:∀y∈scope.names,y.2=.local->scope.names.lookup y.1=some .local
 free:∀y∈scope.names,y.2=.free->(X.env.kindOf y.1=some .cell\/X.env.kindOf y.1=some .free)/\(y.1,NameKind.cell)∉scope.names/\scope.names.lookup y.1=some .free
theorem mem_of_lookupK:∀{l:.cJ} {x:Str} {k:NameKind},l.lookup x=some k->(x,k)∈l
 |(y,d)::r,x,k,h=>by
  rw [za0] at h
  cases hb:x == y with
  |true=>rw [hb] at h;cases h;rw [beq_iff_eq.mp hb];exact zad
  |false=>rw [hb] at h;exact zae _ (mem_of_lookupK h)
theorem hZ {env:Env}:∀{names:.cJ} {x:Str},names.lookup x=some .free ->
    ((names.map fun (n,k)=>if .a8 then (n,NameKind.cell) else (n,k)).lookup x=some .cell \/
     (names.map fun (n,k)=>if .a8 then (n,NameKind.cell) else (n,k)).lookup x=some .free)
  |(n,k)::r,x,h=>by
    rw [za0] at h
    have en:∀y:Str×NameKind,y=(if .a8=true then (n,NameKind.cell) else (n,k))->y.1=n/\(y.2=.cell\/y.2=k):=fun y e=>by
      subst e
      split
      · exact⟨rfl,.inl rfl⟩
      · exact⟨rfl,.inr rfl⟩
    rw [zaf]
    dsimp only
    generalize hy:(if .a8=true then (n,NameKind.cell) else (n,k))=y
    obtain⟨e1,e2⟩:=en y hy.symm
    obtain⟨a,b⟩:=y
    dsimp only at e1 e2
    subst e1
    rw [za0]
    cases hb:x == a with
    |true =>
      rw [hb] at h
      cases h
      rcases e2 with rfl | rfl
      · exact .inl rfl
      · exact .inr rfl
    |false =>
      rw [hb] at h
      exact hZ h
theorem Aj {X:Cx}{scope:Scope}{x:Str}(h:(jm X scope C cs).kindOf x=some .cell\/(jm X scope C cs).kindOf x=some .free):(x,NameKind.cell)∈scope.names\/(x,NameKind.free)∈scope.names:=by
 have key:∀k,(jm X scope C cs).kindOf x=some k->(k=.cell\/k=.free)->(x,NameKind.cell)∈scope.names\/(x,NameKind.free)∈scope.names:=fun k h hk=>by
  have m:=mem_of_lookupK (show (relabel scope X.env).names.lookup x=some k from h)
  unfold relabel at m
  obtain⟨⟨y,j⟩,m1,m2⟩:=zao.mp m
  dsimp only at m2
  split at m2
  ·next hc =>
   cases m2
   simp only [Bool.and_eq_true,beq_iff_eq] at hc
   rw [hc.1.1] at m1
   exact .inr m1
  ·cases m2
   rcases hk with rfl | rfl
   ·exact .inl m1
   ·exact .inr m1
 rcases h with h | h
 ·exact key _ h .cf
 ·exact key _ h (.inr rfl)
section
variable {X:Cx}{pins:.s}{σ:L2.St}{H:Hp}{s:Shared}{scope:Scope}{fp:.aj}{N':.Y}{σ':L2.St}
noncomputable abbrev Cj:Obj:={ cls:=.type "list", dict:=none,data:=.seq ([]:List Value).toArray }
noncomputable abbrev lF:Obj:={ cls:=.type "dict", data:=.dict #[] }
def hA (acc:Obj)(h:Heap)(scope:Scope):Heap:=pushCells ((h.push acc).push lF) scope.names
abbrev h0 (h:Heap)(scope:Scope):Heap:=hA Cj h scope
theorem ja {acc:Obj}{h:Heap}{b:Addr}{o:Obj}(e:h.get? b=some o):(hA acc h scope).get? b=some o:=pushCells_keeps _ _ _ _ (.B (Heap.get?_push_of_some _ e))
theorem CM {h:Heap}{b:Addr}{o:Obj}(e:h.get? b=some o):(h0 h scope).get? b=some o:=ja e
theorem LI {acc:Obj}(h:Heap)(ha:acc.isFreed=false):(hA acc h scope).get? h.objs.size=some acc:=pushCells_keeps _ _ _ _ (.B (.aw ha))
theorem rF (acc:Obj)(u:HO)(new:du X.prog X.w (.z u) (hA acc s.heap scope) s.heap.objs.size u)(I:.u)(B:eQ X scope)(hf:∀b∈fp,ri X pins H b)(ho:∀b∈fp,∃o,s.heap.get? b=some o)(hl:σ'.length=N'.length)
  (cap:∀(i:Nat) (x:Str) (v:V),N'[i]? = some x->σ'[i]? = some .dw->((x,NameKind.free)∈scope.names/\∃j:Nat,X.N[j]? = some x/\σ[j]? = some .dw)\/¬ Na (relabel scope X.env) x) {tk:Nat} :
  Inv (mX X scope N' .ax (cellsFrom .c7 scope.names .bj) s H fp pins) [] σ' (.z u) { s with heap:=hA acc s.heap scope,toks:=tk }:=by
 have hz1:(s.heap.push acc).objs.size=s.heap.objs.size+1:=Heap.size_push ..
 have hz2:((s.heap.push acc).push lF).objs.size=s.heap.objs.size+2:=by rw [Heap.size_push,hz1]
 have hfree:∀y∈scope.names,y.2=.free->∃c,X.env.cells.lookup y.1=some c:=fun y hy hk=>I.ok.has y.1 (B.free y hy hk).1
 have clm:∀x c,(x,c)∈pk X.env scope.names []->X.env.cells.lookup x=some c/\(x,NameKind.free)∈scope.names:=fun x c h=>by
  rcases wJ _ _ x c hfree h with h | h
  ·cases h
  ·exact h
 have cl_lt:∀x c,(x,c)∈pk X.env scope.names []->@LT.lt Nat _ c s.heap.objs.size:=fun x c h=>by
  obtain⟨v,q⟩:=I.cell x c (clm x c h).1
  exact q.lt
 have csm:∀x c,(x,c)∈cellsFrom .c7 scope.names .bj->(X.env.cells.lookup x=some c/\(x,NameKind.free)∈scope.names/\@LT.lt Nat _ c s.heap.objs.size)\/(@LE.le Nat _ .c7 c/\(x,NameKind.cell)∈scope.names):=fun x c h=>by
  rcases A5 _ _ _ x c h with h | h
  ·exact .inl ⟨(clm x c h).1,(clm x c h).2,cl_lt x c h⟩
  ·exact .inr h
 have hD:H s.heap.objs.size=none:=I.fresh
 have up:∀b:Addr,@LT.lt Nat _ b s.heap.objs.size->upd H s.heap.objs.size u b=H b:=fun b hb=>aE (zaq hb)
 have upF:∀b:Addr,@LT.lt Nat _ s.heap.objs.size b->upd H s.heap.objs.size u b=none:=fun b hb=>by rw [aE (zaU hb)];exact I.hok.fresh (zbN hb)
 have flt:∀b∈fp,@LT.lt Nat _ b s.heap.objs.size:=fun b hb=>by obtain⟨o,e⟩:=ho b hb;exact Heap.lt_size e
 refine⟨⟨I.ok.mod,B.kind,I.ok.glob,I.ok.blt,zbV _,fun x y c h1 h2=>?_,fun x hx=>?_,fun x c hx h=>?_,I.ok.hd,I.ok.frames,.inl rfl,fun b hb=>⟨?_,fun x c h=>?_⟩,I.bs,zaA I.ok.bsz I.sz,fun b o e hb=>?_,fun b hb z=>?_,I.stack,I.stkFree⟩,
  rfl,I.bare,?_,⟨fun _=>none,?_,fun i x v e1 e2 e3=>?_⟩,fun x c h=>?_,upF _ (zbj _),fun x c h=>?_,fun p hp=>?_,?_,hl⟩
 ·exact A4 _ _ _ (fun a b d ha hb=>I.ok.inj a b d (clm a d ha).1 (clm b d hb).1) (fun a d ha=>zat (cl_lt a d ha) (zbX _ 2)) x y c (zaC h1) (zaC h2)
 ·have hm:∃c,(x,c)∈cellsFrom .c7 scope.names .bj:=by
   rcases Aj hx with h | h
   ·exact rK _ _ _ x (.inl h)
   ·exact rK _ _ _ x (.inr (qM _ _ x (.inl h)))
  obtain⟨c,hm⟩:=hm
  exact fU hm
 ·have hx':scope.names.lookup x=some .cell:=beq_iff_eq.mp hx
  rcases csm x c (zaC h) with ⟨_,h2,_⟩ | ⟨h1,_⟩
  ·exact absurd (mem_of_lookupK hx') (B.free _ h2 rfl).2.1
  ·exact zaA (zbX _ 2) h1
 ·exact zaq (zaJ (flt b hb))
 ·rcases csm x c (zaC h) with ⟨h1,_,_⟩ | ⟨h1,_⟩
  ·exact (hf b hb).2.2.2.2.1 x c h1
  ·exact zaU (zat (flt b hb) (zaA (zbX _ 2) h1))
 ·rcases (hf b hb).2.2.2.1 with z | z
  ·exact I.ok.noex b o e z
  ·exact absurd (zat .aF (zaA I.ok.bsz z)) (za1 _)
 ·rcases zan.mp (I.stkSub b z) with z | z
  ·exact (hf b hb).2.1 z
  ·exact (hf b hb).2.2.1 z
 ·exact Un.laid (fun b o e=>ja e) .bU hD
 ·have q:=Heap.Ns.new (s.heap.push acc) (.type "dict")
  rw [hz1] at q
  exact q.keeps fun b o e=>pushCells_keeps _ _ b o e
 ·rcases cap i x v e1 e2 with ⟨hx,j,hj,hv⟩ | hn
  ·obtain⟨m,hm,hlk⟩:=I.loc
   have hk:=(B.free _ hx rfl).1
   have vis:Na X.env.scope x:=by
    rcases hk with hk | hk
    ·exact .inr (.inl hk)
    ·exact .inr (.inr hk)
   obtain⟨u,r,l⟩:=hlk j x v hj hv vis
   refine⟨u,r,.inr ?_⟩
   rcases l with ⟨z,_⟩ | ⟨_,c,hc,hcell⟩
   ·rcases hk with hk | hk<;>(rw [show X.env.kindOf x=X.env.scope.names.lookup x from rfl] at hk z;rw [hk] at z;cases z)
   ·obtain⟨c',hc'⟩:=fU (Classical.choose_spec (rK scope.names .c7 .bj x (.inr (qM _ _ x (.inl hx)))))
    have ec:c'=c:=by
     rcases csm x c' (zaC hc') with ⟨h1,_,_⟩ | ⟨_,h2⟩
     ·rw [hc] at h1;exact (zaL h1).symm
     ·exact absurd h2 (B.free _ hx rfl).2.1
    subst ec
    refine⟨?_,c',hc',hcell.keeps fun b o e=>ja e⟩
    rcases e3 with e3 | e3 | e3
    ·rcases hZ (env:=X.env) (B.free _ hx rfl).2.2 with q | q
     ·exact .inl q
     ·exact .inr q
    ·exact .inl e3
    ·exact .inr e3
  ·exact absurd e3 hn
 ·rcases wI scope.names ((s.heap.push acc).push lF) .bj x c (by rw [hz2];exact zaC h) with m | m
  ·obtain⟨v,q⟩:=I.cell x c (clm x c m).1
   exact⟨v,q.keeps fun b o e=>ja e⟩
  ·exact⟨none,m⟩
 ·rcases csm x c (zaC h) with ⟨h1,_,h3⟩ | ⟨h1,_⟩
  ·rw [up c h3];exact I.freeC x c h1
  ·exact upF c (zat (Nat.lt_add_of_pos_right .f) h1)
 ·have hp':p∈X.pn++pins:=by simpa [mX] using hp
  obtain⟨e,n,ne,nf,d⟩:=I.pin p hp'
  have lt:@LT.lt Nat _ p.1 s.heap.objs.size:=Heap.lt_size e
  refine⟨ja e,by rw [up _ lt];exact n,zaq (zaJ lt),fun z=>?_,d⟩
  rcases zan.mp (I.stkSub _ z) with z | z
  ·exact ne z
  ·exact nf z
 ·exact I.hok.laid (fun b o e=>ja e) .bU new
theorem DR (I:.u)(B:eQ X scope)(hf:∀b∈fp,ri X pins H b)(ho:∀b∈fp,∃o,s.heap.get? b=some o)(hl:σ'.length=N'.length)
  (cap:∀(i:Nat) (x:Str) (v:V),N'[i]? = some x->σ'[i]? = some .dw->((x,NameKind.free)∈scope.names/\∃j:Nat,X.N[j]? = some x/\σ[j]? = some .dw)\/¬ Na (relabel scope X.env) x) {tk:Nat} :
  Inv (mX X scope N' .ax (cellsFrom .c7 scope.names .bj) s H fp pins) [] σ' (.z (.lst [])) { s with heap:=h0 s.heap scope,toks:=tk }:=
 rF Cj (.lst []) ⟨za6 _,[],0,.nil,LI s.heap rfl⟩ I B hf ho hl cap
end
noncomputable abbrev yy (ifs:.az)(env:Env):Sem Bool:=forIn ifs true fun c r=>if r=true then do let ok <- isTrue c env (eval c env);pure (ForInStep.yield ok) else pure (ForInStep.yield r)
theorem DY {prog:.am}{w:World}{A:Around}{R:.e3}{s:Shared}{elt target iter:Expr}{ifs:.az}{scope:Scope}{pos:Pos}{it acc:Value}{env:Env}(I:Nat->Shared->Prop)
  (turn:∀n s,I n s->wpAny .M A (pyNext it) (fun r s₁=>match r with
   |none=>R (.ok .next) s₁
   | some v=>wpAny .M A (letOwnedTupleGo target it v) (fun _ s₂=>wpAny .M A (assign target env v) (fun _ s₃=>wpAny .M A (yy ifs env) (fun ok s₄ =>
     if ok=true then wpAny .M A (eval elt env) (fun x s₅=>wpAny .M A (call (.builtin "list.append") [acc,x]) (fun _ s₆=>∃m,m<n/\I m s₆) .aJ s₅) .aJ s₄
     else ∃m,m<n/\I m s₄) .aJ s₃) .aJ s₂) .aJ s₁) .aJ s)
  (n:Nat) (h:I n s):codeAny .M A (.compLoop (.ListComp elt [⟨target,iter,ifs,0⟩] scope pos) 0 it acc env) R s:=by
 have no:∀{α:Type} {m:Sem α} {Q:α->Shared->Prop} {E:.m} {s:Shared},wpAny .M A m Q .aJ s->wpAny .M A m Q E s:=fun h=>wpAny_mono h (fun _ _ q=>q) fun _ _ z=>z.elim
 refine codeAny_loop rfl I (fun n s hI=>?_) n h
 refine (wpAny_noted ?_:wpAny _ A ((compTurn (.ListComp elt [⟨target,iter,ifs,0⟩] scope pos) 0 it acc env).onRaise (fun x=>do noteFrame x env;theTreesLotGoes x)) _ _ s)
 rw [compTurn_list]
 refine wpAny_bind (wpAny_standAt (.u (wpAny_mono (no (turn n s hI)) (fun r s₁ h₁=>?_) fun _ _ z=>z)))
 cases r with
 |none=>exact wpAny_pure h₁
 |some v =>
  refine wpAny_bind (wpAny_mono (no h₁) (fun _ s₂ h₂=>wpAny_bind (wpAny_mono (no h₂) (fun _ s₃ h₃=>wpAny_bind (wpAny_mono (no h₃) (fun ok s₄ h₄=>?_) fun _ _ z=>z)) fun _ _ z=>z)) fun _ _ z=>z)
  cases ok with
  |false=>exact wpAny_pure ⟨rfl,h₄⟩
  |true=>exact wpAny_bind (.u (wpAny_mono (no h₄) (fun x s₅ h₅=>wpAny_bind (wpAny_mono (no h₅) (fun _ s₆ h₆=>wpAny_pure (.V ⟨rfl,h₆⟩)) fun _ _ z=>z)) fun _ _ z=>z))
def bL:aD->Bool
 |[]=>true
 |some (.own _)::_=>false
 |_::r=>bL r
theorem eI:∀{τ:aD} {i:Nat} {ts:List T},bL τ=true->τ[i]?≠some (.v ts)
 |[],i,ts,_=>.h
 |some (.own _)::_,i,ts,h=>by cases h
 |'0' t::r,0,ts,h=>.h
 |none::r,0,ts,h=>.h
 |'0' t::r,i+1,ts,h=>by rw [List.getElem?_cons_succ];exact eI (τ:=r) h
 |none::r,i+1,ts,h=>by rw [List.getElem?_cons_succ];exact eI (τ:=r) h
def eD (fg:FG)(ft:FT)(fe:FE):List T->aD->List T->Option (List T)
 |[],_,acc=>some acc
 |t::ts,τ,acc=>(fg t τ).bind fun τ1=>(ft τ1).bind fun p=>if p.1=true then (fe p.2).bind fun q=>if bL q.2=true/\acc.length<sizeLine then eD fg ft fe ts q.2 (acc++[q.1]) else none
  else if bL p.2=true then eD fg ft fe ts p.2 acc else none
def frz1 (j:Nat)(τ:aD):aD:=match τ[j]? with
 |some (.v ts)=>τ.set j (.y .dX)
 |_=>τ
def frzAll:List Nat->aD->aD
 |[],τ=>τ
 |j::r,τ=>frzAll r (frz1 j τ)
def yR {α:Type}(l:List (Option α))(j:Nat):Option α:=match l[j]? with
 |some x=>x
 |none=>none
def cW {α:Type}(no:Nat)(cap:.I)(l:List (Option α)):List (Option α):=List.replicate no none++cap.map (yR l)
def bF (no:Nat)(cap:.I)(fi:FA)(fg:FG)(ft:FT)(fe:FE):FE:=fun τ=>(fi τ).bind fun p =>
 if bL .be=true then (eD fg ft fe p.1 .be []).bind fun us=>some (.lst us,frzAll cap p.2) else none
def aS:FT:=fun τ=>some (true,τ)
def EX (X:Cx)(ifs:.az)(ft:FT):Prop:=∀Y0 Y9 pins s σ H Q,Inv X pins σ H s->tT X.K Y0 Y9 ft σ H Q->wpAny .q X.A (yy ifs X.env) (TP X pins σ Q) X.xe s
theorem dJ {X:Cx}:EX X [] aS:=fun Y0 Y9 pins s σ H Q I hq__=>by
 obtain⟨F,τ,b,τ',E,e,q⟩:=hq__
 cases e
 exact wpAny_tests_nil ⟨H,I,q F H E .en⟩
theorem iw {X:Cx}{c:Expr}{ft:FT}(h:ST X c ft):EX X [c] ft:=fun Y0 Y9 pins s σ H Q I q=>wpAny_tests_one (h Y0 Y9 pins s σ H Q I q)
section
variable {K:.l}{Y0 Y9 F H:Hp}{σ:L2.St}{τ:aD}
theorem aJ.frz1 (E:.aG)(j:Nat):∃F',aJ K Y0 Y9 F' H σ (TM.frz1 j τ)/\aV F F':=by
 unfold TM.frz1
 split
 ·next ts e =>
  obtain⟨F',v,_,E',s',_⟩:=E.freeze e
  exact⟨F',E',s'⟩
 ·exact⟨F,E,aV.refl _⟩
theorem aJ.frzAll:∀(cap:.I) {F:Hp} {τ:aD},aJ K Y0 Y9 F H σ τ->∃F',aJ K Y0 Y9 F' H σ (TM.frzAll cap τ)/\aV F F'
 |[],F,τ,E=>⟨F,E,aV.refl _⟩
 |j::r,F,τ,E=>by
  obtain⟨F1,E1,s1⟩:=E.frz1 j
  obtain⟨F2,E2,s2⟩:=aJ.frzAll r E1
  exact⟨F2,E2,s1.trans s2⟩
theorem aJ.rebase {H':Hp}(E:.aG)(ha:bL τ=true)(s:aV F H'):aJ K F H' F H' σ τ:=by
 refine⟨bw.refl s,E.len,fun i sl e=>?_,fun i j ts us p _ e1=>absurd e1 (eI ha)⟩
 obtain⟨v,h1,h2⟩:=E.sl i sl e
 cases sl with
 |sh t=>exact⟨v,h1,h2⟩
 |own ts=>exact absurd e (eI ha)
theorem pC {α:Type}{no:Nat}{cap:.I}{l:List (Option α)}{i:Nat}{x:α}(h:(cW no cap l)[i]? = some (some x)):∃k j:Nat,i=no+k/\cap[k]? = some j/\l[j]? = some (some x):=by
 unfold cW at h
 by_cases hi:i<no
 ·rw [List.getElem?_append_left .dr,List.getElem?_replicate] at h
  split at h<;>cases h
 ·rw [List.getElem?_append_right .dr,List.length_replicate,List.getElem?_map] at h
  cases e:cap[i-no]? with
  |none=>rw [e] at h;cases h
  |some j =>
   rw [e] at h
   have h':yR l j=some x:=zaL h
   unfold yR at h'
   split at h'
   ·next y ey=>exact⟨i-no,j,.e,e,by rw [ey,h']⟩
   ·cases h'
theorem DQ {α:Type}{no:Nat}{cap:.I}{l:List (Option α)}{k j:Nat}{x:α}(h1:cap[k]? = some j)(h2:l[j]? = some (some x)):(cW no cap l)[no+k]? = some (some x):=by
 unfold cW
 rw [List.getElem?_append_right .h,List.length_replicate,Nat.add_sub_cancel_left,List.getElem?_map,h1]
 show some (yR l j)=_
 unfold yR
 rw [h2]
theorem aJ.block {H':Hp}{no:Nat}{cap:.I}(E:.aG)(ha:bL (cW no cap τ)=true)(s:aV F H'):aJ K F H' F H' (cW no cap σ) (cW no cap τ):=by
 refine⟨bw.refl s,by simp [cW],fun i sl e=>?_,fun i j ts us p _ e1=>absurd e1 (eI ha)⟩
 obtain⟨k,j,rfl,hk,hj⟩:=pC e
 obtain⟨v,h1,h2⟩:=E.sl j sl hj
 refine⟨v,DQ hk h1,?_⟩
 cases sl with
 |sh t=>exact h2
 |own ts=>exact absurd e (eI ha)
end
section
variable {X:Cx}
def fB (i no:Nat)(cap:.I)(fi:FA)(fg:FG)(ft:FT)(fe:FE):FS:=fun τ=>(fi τ).bind fun p =>
 if bL .be=true then (eD fg ft fe p.1 .be []).bind fun us=>some (.nx ((frzAll cap p.2).set i (.v us))) else none
end
def yQ (sc scope:Scope):Bool:=scope.kind == .function&&scope.names.all fun y=>(y.2 != .local||scope.names.lookup y.1 == some .local) &&
 (y.2 != .free||((sc.names.lookup y.1 == some .cell||sc.names.lookup y.1 == some .free)&&scope.names.all (fun z=>!(z.1 == y.1&&z.2 == .cell))&&scope.names.lookup y.1 == some .free))
theorem bf {X:Cx}{scope:Scope}(h:yQ X.env.scope scope=true):eQ X scope:=by
 unfold yQ at h
 simp only [Bool.and_eq_true,List.all_eq_true,Bool.or_eq_true,bne_iff_ne,beq_iff_eq,Bool.not_eq_true',Bool.and_eq_false_iff,ne_eq] at h
 refine⟨h.1,fun y hy hk=>?_,fun y hy hk=>?_⟩
 ·rcases (h.2 y hy).1 with z | z
  ·exact absurd hk z
  ·exact z
 ·rcases (h.2 y hy).2 with z | ⟨⟨z1,z2⟩,z3⟩
  ·exact absurd hk z
  ·refine⟨z1,fun m=>?_,z3⟩
   rcases z2 _ m with w | w
   ·simp at w
   ·simp at w
def rJ (N N':.Y)(scope:Scope)(no:Nat):List Nat->Bool
 |[]=>true
 |j::r=>(match N'[no]?,N[j]? with | some x,some y=>x == y&&scope.names.any (fun z=>z.1 == x&&z.2 == .free) | _,_=>false)&&rJ N N' scope (no+1) r
theorem cJ {N N':.Y}{scope:Scope}:∀{no:Nat} {cap:.I},rJ N N' scope no cap=true->∀(k j:Nat),cap[k]? = some j->∃x,N'[no+k]? = some x/\N[j]? = some x/\(x,NameKind.free)∈scope.names
 |no,[],_,k,j,e=>by simp at e
 |no,c::r,h,k,j,e=>by
  simp only [rJ,Bool.and_eq_true] at h
  cases k with
  |zero =>
   simp at e
   subst e
   have h1:=h.1
   split at h1
   ·next x y ex ey =>
    simp only [Bool.and_eq_true,beq_iff_eq,List.any_eq_true] at h1
    obtain⟨rfl,z,hz,z1,z2⟩:=h1
    refine⟨x,ex,ey,?_⟩
    obtain⟨a,b⟩:=z
    dsimp only at z1 z2
    subst z1 z2
    exact hz
   ·cases h1
  |succ k =>
   obtain⟨x,h1,h2,h3⟩:=cJ h.2 k j (by simpa using e)
   exact⟨x,by rw [show no+(k+1)=no+1+k by omega];exact h1,h2,h3⟩
inductive O where
 |val (t:T) | lst (os:List O)
mutual
def iB (K:.l)(F H:Hp):O->V->List Addr->Prop
 | .val t,v,A=>A=[]/\Rep K F t v
 | .lst os,v,A=>∃p vs B,v=.ref p/\A=p::B/\H p=some .bC/\F p=none/\cP K F H os vs B
def cP (K:.l)(F H:Hp):List O->List V->List Addr->Prop
 |[],vs,A=>vs=[]/\A=[]
 |o::os,vs,A=>∃v r B C,vs=v::r/\A=B++C/\iB K F H o v B/\cP K F H os r C
end
mutual
def O.tr:O->T
 | .val t=>t
 | .lst os=>.lst (O.trs os)
def O.trs:List O->List T
 |[]=>[]
 |o::os=>o.tr::O.trs os
end
section
variable {K:.l}{F H F' H':Hp}
mutual
theorem iB.move (sF:aV F F'):∀{o:O} {v:V} {A:.aj},(∀a∈A,H' a=H a/\F' a=none)->iB K F H o v A->iB K F' H' o v A
 | .val t,v,A,_,h=>⟨h.1,Rep.mono sF h.2⟩
 | .lst os,v,A,hA,h=>by
  obtain⟨p,vs,B,rfl,rfl,h1,h2,h3⟩:=h
  have hp:=hA p zad
  exact⟨p,vs,B,rfl,rfl,hp.1.trans h1,hp.2,cP.move sF (fun a ha=>hA a (zae _ ha)) h3⟩
theorem cP.move (sF:aV F F'):∀{os:List O} {vs:List V} {A:.aj},(∀a∈A,H' a=H a/\F' a=none)->cP K F H os vs A->cP K F' H' os vs A
 |[],vs,A,_,h=>h
 |o::os,vs,A,hA,h=>by
  obtain⟨v,r,B,C,rfl,rfl,h1,h2⟩:=h
  exact⟨v,r,B,C,rfl,rfl,iB.move sF (fun a ha=>hA a (zbd _ ha)) h1,cP.move sF (fun a ha=>hA a (zar _ ha)) h2⟩
end
mutual
theorem iB.at:∀{o:O} {v:V} {A:.aj},iB K F H o v A->∀a∈A,F a=none/\∃vs,H a=some .bC
 | .val t,v,A,h,a,ha=>by rw [h.1] at ha;cases ha
 | .lst os,v,A,h,a,ha=>by
  obtain⟨p,vs,B,rfl,rfl,h1,h2,h3⟩:=h
  rcases zan.mp ha with rfl | ha
  ·exact⟨h2,vs,h1⟩
  ·exact cP.at h3 a ha
theorem cP.at:∀{os:List O} {vs:List V} {A:.aj},cP K F H os vs A->∀a∈A,F a=none/\∃vs,H a=some .bC
 |[],vs,A,h,a,ha=>by rw [h.2] at ha;cases ha
 |o::os,vs,A,h,a,ha=>by
  obtain⟨v,r,B,C,rfl,rfl,h1,h2⟩:=h
  rcases zaB.mp ha with ha | ha
  ·exact iB.at h1 a ha
  ·exact cP.at h2 a ha
end
mutual
theorem iB.rep (sF:aV F F'):∀{o:O} {v:V} {A:.aj},(∀a∈A,F' a=H a)->iB K F H o v A->Rep K F' o.tr v
 | .val t,v,A,_,h=>Rep.mono sF h.2
 | .lst os,v,A,hA,h=>by
  obtain⟨p,vs,B,rfl,rfl,h1,h2,h3⟩:=h
  exact⟨p,vs,rfl,(hA p zad).trans h1,cP.rep sF (fun a ha=>hA a (zae _ ha)) h3⟩
theorem cP.rep (sF:aV F F'):∀{os:List O} {vs:List V} {A:.aj},(∀a∈A,F' a=H a)->cP K F H os vs A->aT K F' (O.trs os) vs
 |[],vs,A,_,h=>h.1
 |o::os,vs,A,hA,h=>by
  obtain⟨v,r,B,C,rfl,rfl,h1,h2⟩:=h
  exact⟨v,r,rfl,iB.rep sF (fun a ha=>hA a (zbd _ ha)) h1,cP.rep sF (fun a ha=>hA a (zar _ ha)) h2⟩
end
theorem cP.app:∀{os us:List O} {vs ws:List V} {A B:.aj},cP K F H os vs A->cP K F H us ws B->cP K F H (os++us) (vs++ws) (A++B)
 |[],_,_,_,_,_,h,h'=>by obtain⟨rfl,rfl⟩:=h;exact h'
 |o::os,_,_,_,_,_,h,h'=>by
  obtain⟨v,r,B,C,rfl,rfl,h1,h2⟩:=h
  exact⟨v,r++_,B,C++_,rfl,by rw [zaO],h1,cP.app h2 h'⟩
theorem cP.one {o:O}{v:V}{A:.aj}(h:iB K F H o v A):cP K F H [o] [v] A:=⟨v,[],A,[],rfl,.h,h,rfl,rfl⟩
theorem cP.length:∀{os:List O} {vs:List V} {A:.aj},cP K F H os vs A->vs.length=os.length
 |[],_,_,h=>by rw [h.1];rfl
 |o::os,_,_,h=>by
  obtain⟨v,r,B,C,rfl,rfl,h1,h2⟩:=h
  simp [cP.length h2]
def frzO (F H:Hp)(A:.aj):Hp:=fun a=>if a∈A then H a else F a
theorem wY {A:.aj}{a:Addr}(h:a∈A):frzO F H A a=H a:=if_pos h
theorem oz {A:.aj}{a:Addr}(h:a∉A):frzO F H A a=F a:=if_neg h
theorem iy {A:.aj}(h:∀a∈A,F a=none):aV F (frzO F H A):=fun a o e=>by
 rw [oz (fun m=>by rw [h a m] at e;cases e)];exact e
theorem iB.frz {o:O}{v:V}{A:.aj}(h:iB K F H o v A):Rep K (frzO F H A) o.tr v:=iB.rep (iy fun a ha=>(h.at a ha).1) (fun a ha=>wY ha) h
theorem bw.frzO {Y0 Y9:Hp}{A:.aj}(g:bw Y0 Y9 F H)(h:∀a∈A,F a=none)(h0:∀a∈A,Y9 a=none):bw Y0 Y9 (frzO F H A) H:=by
 refine⟨g.sF.trans (iy h),g.sH,fun a o e=>?_,fun a o e=>?_⟩
 ·by_cases m:a∈A
  ·rw [wY m] at e;exact e
  ·rw [oz m] at e;exact g.fh _ _ e
 ·by_cases m:a∈A
  ·exact .inr (h0 a m)
  ·rw [oz m] at e;exact g.nw _ _ e
end
section
variable {K:.l}{Y0 Y9 F H F' H':Hp}{σ:L2.St}{τ:aD}{A:.aj}
def Apart (σ:L2.St)(τ:aD)(A:.aj):Prop:=∀(j:Nat) us p,τ[j]? = some (.v us)->σ[j]? = some (.J p)->p∉A
theorem aJ.frzO (E:.aG)(h:∀a∈A,F a=none)(h0:∀a∈A,Y9 a=none)(ow:Apart σ τ A):aJ K Y0 Y9 (TM.frzO F H A) H σ τ:=by
 refine⟨E.g.frzO h h0,E.len,fun i s e=>?_,E.dj⟩
 obtain⟨v,h1,h2⟩:=E.sl i s e
 refine⟨v,h1,?_⟩
 cases s with
 |sh t=>exact Rep.mono (iy h) h2
 |own ts =>
  obtain⟨p,vs,rfl,k2,k3,k4,k5⟩:=h2
  exact⟨p,vs,rfl,k2,by rw [oz (ow i ts p e h1)];exact k3,k4,aT.mono (iy h) k5⟩
theorem aJ.hp (E:.aG)(s:aV H H'):aJ K Y0 Y9 F H' σ τ:=by
 refine⟨⟨E.g.sF,E.g.sH.trans s,E.g.fh.trans s,E.g.nw⟩,E.len,fun i sl e=>?_,E.dj⟩
 obtain⟨v,h1,h2⟩:=E.sl i sl e
 refine⟨v,h1,?_⟩
 cases sl with
 |sh t=>exact h2
 |own ts =>
  obtain⟨p,vs,rfl,k2,k3,k4,k5⟩:=h2
  exact⟨p,vs,rfl,s _ _ k2,k3,k4,k5⟩
end
abbrev uu:=aD->Option (O×aD)
def Su (K:.l)(Y0 Y9:Hp)(f:uu):TE:=fun σ H Q=>∃F τ o τ',aJ K Y0 Y9 F H σ τ/\f τ=some (o,τ') /\
 ∀F' H' v A,aJ K Y0 Y9 F' H' σ τ'->aV F F'->iB K F' H' o v A->A.Nodup->(∀a∈A,Y9 a=none)->Apart σ τ' A->Q v H'
def EW (X:Cx)(e:Expr)(f:uu):Prop:=∀Y0 Y9,PE X e (Su X.K Y0 Y9 f)
section
variable {X:Cx}{e:Expr}{pos:Pos}
def RH (f:uu):FE:=fun τ=>(f τ).bind fun p=>some (p.1.tr,p.2)
theorem EW.se {f:uu}(h:EW X e f):SE X e (RH f):=fun Y0 Y9=>PE.weak .c3 fun σ H Q hq__=>by
 obtain⟨F,τ,t,τ',E,e1,q⟩:=hq__
 obtain⟨⟨o,τ1⟩,e2,e1⟩:=bind_some e1
 cases e1
 refine⟨F,τ,o,τ1,E,e2,fun F' H' v A E' s' r nd h0 ow=>?_⟩
 have hF:∀a∈A,F' a=none:=fun a ha=>(r.at a ha).1
 exact q _ H' v (E'.frzO hF h0 ow) (s'.trans (iy hF)) r.frz
def uy (f:FE):uu:=fun τ=>(f τ).bind fun p=>some (.val p.1,p.2)
theorem SE.seo {f:FE}(h:SE X e f):EW X e (uy f):=fun Y0 Y9=>PE.weak .c3 fun σ H Q hq__=>by
 obtain⟨F,τ,t,τ',E,e1,q⟩:=hq__
 obtain⟨⟨o,τ1⟩,e2,e1⟩:=bind_some e1
 cases e1
 exact⟨F,τ,o,τ1,E,e2,fun F' H' v E' s' r=>q F' H' v [] E' s' ⟨rfl,r⟩ zby (fun a ha=>by cases ha) (fun j us p _ _ m=>by cases m)⟩
end
def gX (fg:FG)(ft:FT)(fe:uu):List T->aD->List O->Option (List O)
 |[],_,acc=>some acc
 |t::ts,τ,acc=>(fg t τ).bind fun τ1=>(ft τ1).bind fun p=>if p.1=true then (fe p.2).bind fun q=>if bL q.2=true/\acc.length<sizeLine then gX fg ft fe ts q.2 (acc++[q.1]) else none
  else if bL p.2=true then gX fg ft fe ts p.2 acc else none
section
variable {X:Cx}
structure rg (X:Cx)(pins:.s)(σ:L2.St)(Y0 Y9 F:Hp)(τ:aD)(rs:List O)(D C:Addr)(s:Shared):Prop where
 ex:∃(H F3:Hp) (vs:List V) (As:.aj),Inv X pins σ H s/\aJ X.K Y0 Y9 F3 H σ τ/\aV F F3/\F3 D=none/\H D=some .bC/\Y9 D=none/\cP X.K F3 H rs vs As/\As.Nodup/\(∀a∈As,Y9 a=none/\a≠D)/\Apart σ τ As/\H C=none
 ns:∃m,s.heap.Ns C m
 cl:C≠X.env.locals
 c0:X.Y8.heap.objs.size≤C
 cc:∀x c,X.env.cells.lookup x=some c->c≠C
 cp:∀p∈X.pn++pins,p.1≠C
 ow:∀(j:Nat) us p,τ[j]? = some (.v us)->σ[j]? = some (.J p)->p≠D
theorem rN {elt tg iter:Expr}{ifs:.az}{scope:Scope}{pos:Pos}{N':.Y}{no:Nat}{cap:.I}{fi:FA}{fg:FG}{ft:FT}{fe:uu}(hx:X.xe=fun _ _=>False)(hc:.bL)(B:eQ X scope)(hN:.cE)
  (hcap:∀(k j:Nat),cap[k]? = some j->∃x,N'[no+k]? = some x/\X.N[j]? = some x/\(x,NameKind.free)∈scope.names) (hi:.dH)
  (hg:∀C cs Y8 Y9 fp pins,SG .z tg fg) (ht:∀C cs Y8 Y9 fp pins,EX .z ifs ft) (he:∀C cs Y8 Y9 fp pins,EW .z elt fe)
  {Y0 Y9 F H:Hp} {pins:.s} {s:Shared} {σ:L2.St} {τ τ1:aD} {ts:List T} {rs:List O} (I:.u) (E:aJ X.K Y0 Y9 F H σ τ) (e2:fi τ=some (ts,τ1)) (ha:bL (cW no cap .dP)=true) (e3:gX fg ft fe ts (cW no cap .dP) []=some rs)
  {post:Value->Addr->Result->Shared->Prop} (hpost:∀D C s',rg X pins σ Y0 Y9 F .dP rs D C s'->post (.c D) C (.ok .next) s'):
  wpAny .q X.A (.Q iter) (fun x s₁=>wpAny .q X.A (pyIter x) (fun it s₂=>wpAny .q X.A (newList []) (fun acc s₃ =>
   wpAny .q X.A (newFunctionEnv scope X.env.globals .bj [] X.env.qual none .none (some X.env)) (fun cenv s₄ =>
    codeAny .q X.A (.compStart .aa 0 it acc { cenv with scope:=relabel scope X.env }) (post acc cenv.locals) s₄) X.xe s₃) X.xe s₂) X.xe s₁) X.xe s:=by
 refine cR (hi Y0 Y9 pins s σ H (fun J H1=>∃F1,aJ X.K Y0 Y9 F1 H1 σ τ1/\aV F F1/\Walks X.K F1 ts J) I ⟨F,τ,ts,τ1,E,e2,fun F1 H1 J E1 s1 W=>⟨F1,E1,s1,W⟩⟩) fun v s1 h1=>cR h1 fun itv s2 h2=>?_
 obtain⟨it,fp,tn,J,H1,rfl,I2,Tn,st2,f2,F1,E1,sF1,W⟩:=h2
 obtain⟨F2,E2,sF2⟩:=E1.frzAll cap
 have W2:Walks X.K F2 ts J:=⟨fun i t F3 H3 e a b=>W.go i t F3 H3 e (sF2.trans a) b,fun i t F3 H3 x H4 e a b y=>W.yld i t F3 H3 x H4 e (sF2.trans a) b y,fun F3 H3 a b=>W.stop F3 H3 (sF2.trans a) b⟩
 refine wpAny_newObj_type ?_
 have hz:(s2.heap.push Cj).objs.size=s2.heap.objs.size+1:=Heap.size_push ..
 have hz2:((s2.heap.push Cj).push lF).objs.size=s2.heap.objs.size+2:=by rw [Heap.size_push,hz]
 simp only [newFunctionEnv,Option.isSome_some,if_true]
 refine wpAny_bind (wpAny_alloc ?_)
 refine wpAny_bind (wpAny_layCells _ (fun name kind cells=>by cases hkc:kind == NameKind.cell<;>simp [hkc]) _ _ _ _ ?_)
 simp only [List.forIn_nil]
 refine wpAny_bind (.V .b9)
 have loop:codeAny .q X.A (.compLoop .aa 0 .fC .bt (jm X scope .bZ .al))
   (post .bt .bZ) { s2 with heap:=h0 s2.heap scope }:=by
  have Ib:=DR (N':=N') (σ':=cW no cap σ) (tk:=s2.toks) I2 B f2 (fun b hb=>by obtain⟨o,e,_⟩:=Tn.obj 0 _ st2 b hb;exact⟨o,e⟩) (by simp [cW,hN]) (fun i x v a1 a2=>by
   obtain⟨k,j,rfl,hk,hj⟩:=pC a2
   obtain⟨x',b1,b2,b3⟩:=hcap k j hk
   rw [a1] at b1;cases b1
   exact .inl ⟨b3,j,b2,hj⟩)
  generalize hX':mX X scope N' .bZ .al s2 H1 fp pins=X' at Ib
  have hg':SG X' tg fg:=by rw [<- hX'];exact hg _ _ _ _ _ _
  have ht':EX X' ifs ft:=by rw [<- hX'];exact ht _ _ _ _ _ _
  have he':EW X' elt fe:=by rw [<- hX'];exact he _ _ _ _ _ _
  have xP:X'.prog=X.prog:=by rw [<- hX'];rfl
  have xw:X'.w=X.w:=by rw [<- hX'];rfl
  have xK:X'.K=X.K:=by rw [<- hX'];rfl
  have xA:X'.A=X.A:=by rw [<- hX'];rfl
  have xc:X'.calm=true:=by rw [<- hX'];exact hc
  have xx:X'.xe=fun _ _=>False:=by rw [<- hX'];rfl
  have xe':X'.env=jm X scope .bZ .al:=by rw [<- hX'];rfl
  have xex:X'.ex=fp:=by rw [<- hX'];rfl
  have xfs:X'.fs=vL X.stack:=by rw [<- hX'];rfl
  have xpn:X'.pn=X.pn++pins:=by rw [<- hX'];rfl
  have xs0:X'.Y8=s2:=by rw [<- hX'];rfl
  have xH0:X'.Y9=H1:=by rw [<- hX'];rfl
  have xl:X'.env.locals=s2.heap.objs.size+1:=by rw [<- hX'];rfl
  rw [<- xe',<- xP,<- xw,<- xA]
  have hD1:H1 s2.heap.objs.size=none:=I2.fresh
  have fpk:∀{Hc:Hp} {σc:L2.St} {pc:.s} {sc:Shared},Inv X' pc σc Hc sc->(∀b∈fp,Hc b=none)->∀b∈fp,ri X' [] Hc b:=fun {Hc σc pc sc} Ic hn b hb=>by
   have q1:=Ic.ok.exf b .es
   have q2:=Ic.ok.exfs b .es
   refine⟨hn b hb,q1.1,q2,.inl .es,q1.2,fun p hp=>?_⟩
   rw [xpn,zax] at hp
   exact (f2 b hb).2.2.2.2.2 p hp
  refine DY (fun n s3=>∃i σ3 H3 F3 τ3 us vs As,Inv X' [] σ3 H3 s3/\tn i s3.heap/\(∀b∈fp,H3 b=none)/\aJ X.K F3 H3 F3 H3 σ3 τ3/\bL τ3=true/\F3 s2.heap.objs.size=none/\H3 s2.heap.objs.size=some .bC/\(cP X.K F3 H3 us vs As/\As.Nodup/\∀a∈As,H1 a=none/\a≠s2.heap.objs.size)/\aV F2 F3/\aV H1 H3 /\
   (∀a o,F3 a=some o->F2 a=some o\/H1 a=none)/\i≤ts.length/\n=ts.length-i/\gX fg ft fe (ts.drop i) τ3 us=some rs) ?_ ts.length ?_
  ·rintro n s3 ⟨i,σ3,H3,F3,τ3,us,vs,As,I3,st3,fr3,E3,ha3,fD,hD,⟨rv,nd,fr⟩,sF,sH,nw,hi',rfl,ec⟩
   by_cases hlt:i<ts.length
   ·have hgi:ts[i]? = some ts[i]:=zav hlt
    rw [zbc hlt] at ec
    obtain⟨τ4,e4,ec⟩:=bind_some ec
    obtain⟨⟨b,τ5⟩,e5,ec⟩:=bind_some ec
    have go:=W2.go i _ F3 H3 hgi sF E3.g.fh
    have itm:=(xP ▸ xw ▸ xK ▸ Tn:Turn X'.prog X'.w X'.K tg J fp it tn).item X' rfl rfl rfl xc i [] s3 σ3 H3 .aJ I3 (fpk I3 fr3) st3 go
    refine cR itm fun r s4 ⟨u,hr,h4⟩=>?_
    subst hr
    refine cR h4 fun _ s5 ⟨x,H5,I5,r5,y5,st5,fr5⟩=>?_
    have I5':=I5.pinned (fpk I5 fr5) (Tn.obj _ _ st5)
    obtain⟨F5,gr,rx⟩:=W2.yld i _ F3 H3 x H5 hgi sF E3.g.fh y5
    have a1:=hg' F3 H3 _ s5 σ3 H5 x u (fun σ6 H6=>∃F6,aJ X.K F3 H3 F6 H6 σ6 τ4/\aV F5 F6) I5' r5 (by rw [xK];exact⟨F5,τ3,ts[i],τ4,E3.grow gr,rx,e4,fun F6 H6 σ6 E6 s6=>⟨F6,E6,s6⟩⟩)
    rw [xx] at a1
    refine cR a1 fun _ s6 ⟨σ6,H6,I6,F6,E6,sF6⟩=>?_
    have a2:=ht' F3 H3 _ s6 σ6 H6 (fun b' H7=>b'=b/\∃F7,aJ X.K F3 H3 F7 H7 σ6 τ5/\aV F6 F7) I6 (by rw [xK];exact⟨F6,τ4,b,τ5,E6,e5,fun F7 H7 E7 s7=>⟨rfl,F7,E7,s7⟩⟩)
    rw [xx] at a2
    refine cR a2 fun ok s7 ⟨H7,I7,hok,F7,E7,sF7⟩=>?_
    subst hok
    have tail:∀{σc:L2.St} {Hc:Hp} {sc:Shared},Inv X' ([]++pN fp s5.heap) σc Hc sc->tn (i+1) sc.heap/\∀b∈fp,Hc b=none:=fun {σc Hc sc} Ic=>by
     refine⟨Tn.keep _ _ _ st5 fun b hb o e=>(Ic.pin (b,o) .dv).1,fun b hb=>?_⟩
     obtain⟨o,e,d⟩:=Tn.obj _ _ st5 b hb
     exact (Ic.pin (b,o) .dv).2.1
    have keepD:∀{Fc Hc:Hp} {σc:L2.St} {τc:aD},aJ X.K F3 H3 Fc Hc σc τc->Fc s2.heap.objs.size=none:=fun {Fc Hc σc τc} Ec=>by
     cases eF:Fc s2.heap.objs.size with
     |none=>rfl
     |some o =>
      rcases Ec.g.nw _ o eF with z | z
      ·rw [fD] at z;cases z
      ·rw [hD] at z;cases z
    have newF:∀{Fc Hc:Hp} {σc:L2.St} {τc:aD},aJ X.K F3 H3 Fc Hc σc τc->∀a o,Fc a=some o->F2 a=some o\/H1 a=none:=fun {Fc Hc σc τc} Ec a o eF=>by
     rcases Ec.g.nw a o eF with z | z
     ·exact nw a o z
     ·exact .inr (sH.free z)
    have mv:∀{Fc Hc Hd:Hp} {σc:L2.St} {τc:aD},aJ X.K F3 H3 Fc Hc σc τc->(∀a,a≠s2.heap.objs.size->Hd a=Hc a)->cP X.K Fc Hd us vs As:=fun {Fc Hc Hd σc τc} Ec hd=>by
     refine cP.move Ec.g.sF (fun a ha=>?_) rv
     obtain⟨f1,ws,f2⟩:=rv.at a ha
     refine⟨by rw [hd a (fr a ha).2,Ec.g.sH _ _ f2,f2],?_⟩
     cases eF:Fc a with
     |none=>rfl
     |some o =>
      rcases Ec.g.nw _ o eF with z | z
      ·rw [f1] at z;cases z
      ·rw [f2] at z;cases z
    cases b':ok with
    |false =>
     subst b'
     dsimp only at ec
     rw [if_neg .f] at ec
     split at ec
     ·next ha =>
      rw [if_neg .f]
      obtain⟨t1,t2⟩:=tail I7
      exact⟨ts.length-(i+1),.e,i+1,σ6,H7,F7,τ5,us,vs,As,I7.unpinned,t1,t2,E7.rebase ha E7.g.fh,ha,keepD E7,E7.g.sH _ _ hD,⟨mv E7 .v,nd,fr⟩,sF.trans E7.g.sF,sH.trans E7.g.sH,newF E7,hlt,rfl,ec⟩
     ·cases ec
    |true =>
     subst b'
     dsimp only at ec
     rw [if_pos rfl] at ec
     rw [if_pos rfl]
     obtain⟨⟨y0,τ6⟩,e6,ec⟩:=bind_some ec
     dsimp only at ec
     split at ec
     ·next ha =>
      have a3:=he' F3 H3 _ s7 σ6 H7 (fun y H8=>∃F8 Ay,aJ X.K F3 H3 F8 H8 σ6 τ6/\iB X.K F8 H8 y0 y Ay/\Ay.Nodup/\∀a∈Ay,H3 a=none) I7 (by rw [xK];exact⟨F7,τ5,y0,τ6,E7,e6,fun F8 H8 y Ay E8 s8 r8 n8 h8 _=>⟨F8,Ay,E8,r8,n8,h8⟩⟩)
      rw [xx] at a3
      refine cR a3 fun yv s8 ⟨y,H8,I8,ry,F8,Ay,E8,rp,ndy,hy8⟩=>?_
      have dD:H8 s2.heap.objs.size=some .bC:=E8.g.sH _ _ hD
      have a4:=vW (X:=X') _ s8 σ6 H8 .bt [y] .bt [yv] (fun _ H9=>H9=upd H8 s2.heap.objs.size (.lst (vs++[y]))) I8 rfl (.aq ry) ⟨s2.heap.objs.size,vs,y,rfl,rfl,dD,by rw [rv.length];exact ha.2,rfl⟩
      rw [xx] at a4
      refine cR a4 fun _ s9 ⟨_,H9,I9,_,e9⟩=>?_
      subst e9
      obtain⟨t1,t2⟩:=tail I9
      have kD:=keepD E8
      have sm:aV F8 .c1:=fun c o z=>by rw [aE (fun w=>by subst w;rw [kD] at z;cases z)];exact E8.g.fh _ _ z
      have sm1:aV H1 .c1:=fun c o z=>by rw [aE (fun w=>by subst w;rw [hD1] at z;cases z)];exact E8.g.sH _ _ (sH _ _ z)
      have yD:∀a∈Ay,a≠s2.heap.objs.size:=fun a ha z=>by have:=hy8 a ha;rw [z,hD] at this;cases this
      have rp9:iB X.K F8 .c1 y0 y Ay:=iB.move .en (fun a ha=>⟨aE (yD a ha),(rp.at a ha).1⟩) rp
      have all9:cP X.K F8 .c1 (us++[y0]) (vs++[y]) (As++Ay):=(mv E8 (fun a ha=>aE ha)).app (.one rp9)
      have nd9:(As++Ay).Nodup:=zaP.mpr ⟨nd,ndy,fun a ha b hb z=>by subst z;obtain⟨_,ws,f2⟩:=rv.at a ha;rw [hy8 a hb] at f2;cases f2⟩
      have fr9:∀a∈As++Ay,H1 a=none/\a≠s2.heap.objs.size:=fun a ha=>by
       rcases zaB.mp ha with ha | ha
       ·exact fr a ha
       ·exact⟨sH.free (hy8 a ha),yD a ha⟩
      exact⟨ts.length-(i+1),.e,i+1,σ6,_,F8,τ6,us++[y0],vs++[y],As++Ay,I9.unpinned,t1,t2,E8.rebase ha.1 sm,ha.1,kD,aQ,⟨all9,nd9,fr9⟩,sF.trans E8.g.sF,sm1,newF E8,hlt,rfl,ec⟩
     ·cases ec
   ·have hie:i=ts.length:=.e
    subst hie
    rw [zbq] at ec
    cases ec
    have dn:=(xP ▸ xw ▸ xK ▸ Tn:Turn X'.prog X'.w X'.K tg J fp it tn).done X' rfl rfl rfl xc ts.length [] s3 σ3 H3 .aJ I3 (fpk I3 fr3) st3 (W2.stop F3 H3 sF E3.g.fh)
    refine cR dn fun r s4 ⟨hr,I4⟩=>?_
    subst hr
    obtain⟨m4,hm4,_⟩:=I4.loc
    rw [xl] at hm4
    have un:=I4.base
    rw [xfs,xex,xH0,xs0] at un
    have ox:=I4.os
    rw [xs0] at ox
    have hok4:=I4.hok
    rw [xP,xw] at hok4
    have IX:Inv X pins σ H3 s4:=I2.call' ox un hok4 I4.bare fun b hb=>⟨(f2 b hb).2.2.2.1,(f2 b hb).2.1,(f2 b hb).2.2.2.2.1,(f2 b hb).2.2.2.2.2⟩
    have hC:H3 .bZ=none:=by have:=I4.free;rw [xl] at this;exact this
    have lC:@LT.lt Nat _ X.env.locals s2.heap.objs.size:=I2.lt
    have gr:bw F2 H1 F3 H3:=⟨sF,sH,E3.g.fh,nw⟩
    have ap3:Apart σ .dP As:=fun j us p j1 j2 m=>by
     obtain⟨v,k1,p',vs',rfl,k2,_⟩:=E2.sl j _ j1
     rw [j2] at k1;cases k1
     rw [(fr _ m).1] at k2;cases k2
    refine hpost _ _ _ ⟨⟨H3,F3,vs,As,IX,E2.grow gr,(sF1.trans sF2).trans sF,fD,hD,E2.g.sH.free hD1,rv,nd,fun a ha=>⟨E2.g.sH.free (fr a ha).1,(fr a ha).2⟩,ap3,hC⟩,⟨m4,hm4⟩,zaU (zaJ lC),zaA I2.sz (zbV _),
     fun x c hxc=>by obtain⟨v,z⟩:=I2.cell x c hxc;exact zaq (zaJ z.lt),fun p hp=>zaq (zaJ (Heap.lt_size (I2.pin p hp).1)),fun j us p j1 j2=>?_⟩
    obtain⟨v,k1,p',vs',rfl,k2,_⟩:=E2.sl j _ j1
    rw [j2] at k1;cases k1
    exact bx k2 hD1
  ·refine⟨0,cW no cap σ,upd H1 s2.heap.objs.size (.lst []),F2,cW no cap .dP,[],[],[],Ib,Tn.keep _ _ _ st2 fun b hb o e=>CM e,fun b hb=>?_,E2.block ha (E2.g.fh.trans (dz hD1)),ha,E2.g.fh.free hD1,aQ,⟨⟨rfl,rfl⟩,zby,fun a ha=>by cases ha⟩,aV.refl _,dz hD1,fun a o z=>.inl z,za6 _,rfl,e3⟩
   obtain⟨o,e,_⟩:=Tn.obj 0 _ st2 b hb
   rw [aE (zaq .aF)]
   exact (f2 b hb).1
 have fin:∀{C:Addr} {cs:.cA},C=s2.heap.objs.size+1->cs=cellsFrom (s2.heap.objs.size+2) scope.names .bj ->
   codeAny .q X.A (.compStart .aa 0 .fC .bt (jm X scope C cs)) (post .bt C) { s2 with heap:=h0 s2.heap scope }:=fun {C cs} h1 h2=>by
  subst h1 h2
  exact codeAny_compStart_list loop (Tn.self _ 0 _ _ _ (Tn.keep _ _ _ st2 fun b hb o e=>CM e) loop)
 exact fin hz (by rw [<- hz2])
def nA (no:Nat)(cap:.I)(fi:FA)(fg:FG)(ft:FT)(fe:uu):uu:=fun τ=>(fi τ).bind fun p =>
 if bL .be=true then (gX fg ft fe p.1 .be []).bind fun us=>some (.lst us,frzAll cap p.2) else none
theorem rg.fin {pins:.s}{σ:L2.St}{Y0 Y9 F:Hp}{τ:aD}{rs:List O}{D C:Addr}{s:Shared}(Z:rg X pins σ Y0 Y9 F τ rs D C s):
  ∃(H F3:Hp) (As:.aj),Inv X pins σ H s/\aJ X.K Y0 Y9 F3 H σ τ/\aV F F3/\iB X.K F3 H (.lst rs) (.c D) As/\As.Nodup/\(∀a∈As,Y9 a=none)/\Apart σ τ As/\H C=none:=by
 obtain⟨H,F3,vs,As,IX,E3,sF,fD,hD,h0D,rv,nd,h0,ap,hC⟩:=Z.ex
 refine⟨H,F3,D::As,IX,E3,sF,⟨D,vs,As,rfl,rfl,hD,fD,rv⟩,zbe.mpr ⟨fun m=>(h0 D m).2 rfl,nd⟩,fun a ha=>?_,fun j us p e1 e2 m=>?_,hC⟩
 ·rcases zan.mp ha with rfl | ha
  ·exact h0D
  ·exact (h0 a ha).1
 ·rcases zan.mp m with rfl | m
  ·exact Z.ow j us _ e1 e2 rfl
  ·exact ap j us p e1 e2 m
theorem AD {elt tg iter:Expr}{ifs:.az}{scope:Scope}{pos:Pos}{N':.Y}{no:Nat}{cap:.I}{fi:FA}{fg:FG}{ft:FT}{fe:uu}(hx:X.xe=fun _ _=>False)(hc:.bL)(B:eQ X scope)(hN:.cE)
  (hcap:∀(k j:Nat),cap[k]? = some j->∃x,N'[no+k]? = some x/\X.N[j]? = some x/\(x,NameKind.free)∈scope.names) (hi:.dH)
  (hg:∀C cs Y8 Y9 fp pins,SG .z tg fg) (ht:∀C cs Y8 Y9 fp pins,EX .z ifs ft) (he:∀C cs Y8 Y9 fp pins,EW .z elt fe)
  (hs:∀x,foldedSetIterable iter X.env x=pure x:=by intro _;rfl):EW X .aa (nA no cap fi fg ft fe):=by
 intro Y0 Y9 pins s σ H Q I ⟨F,τ,t,τ',E,e1,q⟩
 obtain⟨⟨ts,τ1⟩,e2,e1⟩:=bind_some e1
 dsimp only at e1
 split at e1
 ·next ha =>
  obtain⟨rs,e3,e1⟩:=bind_some e1
  cases e1
  have hfree:∀y∈scope.names,y.2=.free->∃c,X.env.cells.lookup y.1=some c:=fun y hy hk=>I.ok.has y.1 (B.free y hy hk).1
  rw [eval_ListComp]
  refine wpAny_comprehension_free (use:=none) rfl hs (kf hfree) B.kind B.names (rN hx hc B hN hcap hi hg ht he I E e2 ha e3 fun D C s' Z=>?_)
  obtain⟨H3,F3,As,IX,E3,sF,ro,nd,h0,ap,hC⟩:=Z.fin
  obtain⟨m,hm⟩:=Z.ns
  refine⟨m,hm,fun h' sb=>⟨.ref D,H3,IX.turned (t':=s'.toks) (it:=C) .el hC Z.cl (.inr Z.c0) Z.cc Z.cp,rfl,?_⟩⟩
  exact q F3 H3 (.c D) As E3 sF ro nd h0 ap
 ·cases e1
def Pl (K:.l)(Y0 Y9:Hp)(i:Nat)(f:uu):TS:=fun D σ H=>∃F τ o τ',aJ K Y0 Y9 F H σ τ/\f τ=some (o,τ') /\
 ∀F' H' v A,aJ K Y0 Y9 F' H' σ τ'->aV F F'->iB K F' H' o v A->A.Nodup->(∀a∈A,Y9 a=none)->Apart σ τ' A->D.nx (σ.set i .dw) H'
theorem Af (i:Nat){y:Str}{py spos:Pos}{elt tg iter:Expr}{ifs:.az}{scope:Scope}{pos:Pos}{N':.Y}{no:Nat}{cap:.I}{fi:FA}{fg:FG}{ft:FT}{fe:uu}(hNd:X.N.Nodup)(hiy:X.N[i]? = some y)(hy:.cD)
  (hx:X.xe=fun _ _=>False) (hc:.bL) (B:eQ X scope) (hN:.cE)
  (hcap:∀(k j:Nat),cap[k]? = some j->∃x,N'[no+k]? = some x/\X.N[j]? = some x/\(x,NameKind.free)∈scope.names) (hi:.dH)
  (hg:∀C cs Y8 Y9 fp pins,SG .z tg fg) (ht:∀C cs Y8 Y9 fp pins,EX .z ifs ft) (he:∀C cs Y8 Y9 fp pins,EW .z elt fe)
  (hsw:swapsWith .aa (.Y y py) spos.line X.env=pure true:=by rfl) (hs:∀x,foldedSetIterable iter X.env x=pure x:=by intro _;rfl) (Y0 Y9:Hp):
  PS X (.Assign [.Name y py] .aa spos) (Pl X.K Y0 Y9 i (nA no cap fi fg ft fe)):=by
 intro pins s σ H Dn I ⟨F,τ,r,τ',E,e1,q⟩
 obtain⟨⟨ts,τ1⟩,e2,e1⟩:=bind_some e1
 dsimp only at e1
 split at e1
 ·next ha =>
  obtain⟨rs,e3,e1⟩:=bind_some e1
  cases e1
  have hfree:∀y∈scope.names,y.2=.free->∃c,X.env.cells.lookup y.1=some c:=fun y hy hk=>I.ok.has y.1 (B.free y hy hk).1
  rw [exec_Assign_Name_used _ _ _ _ hsw]
  refine wpAny_bind (wpAny_standAt (.u (?_:wpAny _ X.A (do let _ <- comprehension .aa scope X.env _ (newList []) false (.Q iter) (some (assign (.Name y py) X.env))) _ _ s)))
  refine wpAny_bind (cR (wpAny_comprehension_free (use:=some (assign (.Name y py) X.env)) (Q:=fun _ s'=>SP X pins Dn .next s') rfl hs (kf hfree) B.kind B.names (rN hx hc B hN hcap hi hg ht he I E e2 ha e3 fun D C s' Z=>?_)) fun _ s' hq=>wpAny_pure (.V hq))
  obtain⟨H3,F3,As,IX,E3,sF,ro,nd,h0,ap,hC⟩:=Z.fin
  obtain⟨m,hm⟩:=Z.ns
  refine (wpAny_assign_Name (pV IX hNd hiy (.inl hy) (v:=.ref D) rfl (fun s'' I'' w=>?_) (.inr hy)):wpAny _ X.A (assign (.Name y py) X.env (.c D)) _ _ _)
  obtain⟨a,sb,hab⟩:=w
  have aC:C≠a:=fun z=>by
   subst z
   rcases hab with z | z
   ·exact Z.cl z
   ·exact Z.cc _ _ z rfl
  refine⟨m,hm.sameBut sb aC,fun h' sb'=>⟨_,H3,I''.turned (t':=s''.toks) (it:=C) (fun b o hb e=>(sb'.2 b hb).trans e) hC Z.cl (.inr Z.c0) Z.cc Z.cp,?_⟩⟩
  exact q F3 H3 _ As E3 sF ro nd h0 ap
 ·cases e1
end
def om (H:Hp)(A:.aj):Hp:=fun a=>if a∈A then none else H a
theorem oo {H:Hp}{A:.aj}{a:Addr}(h:a∈A):om H A a=none:=if_pos h
theorem di {H:Hp}{A:.aj}{a:Addr}(h:a∉A):om H A a=H a:=if_neg h
theorem vC {H:Hp}{A:.aj}:aV (om H A) H:=fun a o e=>by
 by_cases m:a∈A
 ·rw [oo m] at e;cases e
 ·rw [di m] at e;exact e
section
variable {K:.l}{Y0 Y9 F₁ H₁ F H F' H':Hp}{σ:L2.St}{τ:aD}
theorem aJ.back (E:aJ K F₁ H₁ F H σ τ)(ha:bL τ=true)(g:bw Y0 Y9 F₁ H₁):aJ K Y0 Y9 F H σ τ:=by
 refine⟨g.trans E.g,E.len,fun i sl e=>?_,fun i j ts us p _ e1=>absurd e1 (eI ha)⟩
 obtain⟨v,h1,h2⟩:=E.sl i sl e
 cases sl with
 |sh t=>exact⟨v,h1,h2⟩
 |own ts=>exact absurd e (eI ha)
theorem aJ.to (E:aJ K F₁ H₁ F H σ τ)(ha:bL τ=true)(sF:aV F F')(g:bw Y0 Y9 F' H'):aJ K Y0 Y9 F' H' σ τ:=by
 refine⟨g,E.len,fun i sl e=>?_,fun i j ts us p _ e1=>absurd e1 (eI ha)⟩
 obtain⟨v,h1,h2⟩:=E.sl i sl e
 cases sl with
 |sh t=>exact⟨v,h1,Rep.mono sF h2⟩
 |own ts=>exact absurd e (eI ha)
end
section
variable {X:Cx}{e:Expr}{f:FE}{ft:FT}{es:.az}{g:FA}
theorem SE.any (h:SE X e f):PE X e (fun σ H Q=>∃Y0 Y9,tE X.K Y0 Y9 f σ H Q):=fun pins s σ H Q I ⟨Y0,Y9,q⟩=>h Y0 Y9 pins s σ H Q I q
theorem ST.any (h:ST X e ft):PT X e (fun σ H Q=>∃Y0 Y9,tT X.K Y0 Y9 ft σ H Q):=fun pins s σ H Q I ⟨Y0,Y9,q⟩=>h Y0 Y9 pins s σ H Q I q
end
section
variable {X:Cx}
def boolsOf:List T->Option (List Bool)
 |[]=>some []
 | .bl b::r=>(boolsOf r).bind fun bs=>some (b::bs)
 |_=>none
def mP:List T->Option T
 |[.lst ts]=>(boolsOf ts).bind fun bs=>some (.bl (bs.all id))
 |_=>none
theorem vw {K:.l}{F:Hp}:∀{ts:List T} {bs:List Bool} {vs:List V} {its:.X},boolsOf ts=some bs->aT K F ts vs->Vals vs its->its=bs.map Value.bool
 |[],bs,vs,its,e,r,z=>by
  cases e;cases r;cases z;rfl
 |t::ts,bs,vs,its,e,r,z=>by
  obtain⟨v,rr,rfl,h1,h2⟩:=r
  unfold boolsOf at e
  split at e
  ·next he=>cases he
  ·next b r0 he =>
   cases he
   obtain⟨bs',e1,e2⟩:=bind_some e
   cases e2
   cases h1
   cases z with
   |cons rz zz =>
    cases rz
    rw [vw e1 h2 zz]
    rfl
  ·cases e
theorem Jn {s:Shared}{h':Heap}{o:Obj}(hk:∀b x,b∉[s.heap.objs.size]->(s.heap.push o).get? b=some x->h'.get? b=some x):∀b x,s.heap.get? b=some x->h'.get? b=some x:=
 fun b x e=>hk b x (fun hm=>by rw [zac.mp hm] at e;exact za1 _ .aF) (.B e)
theorem range_all (bs:List Bool):((List.range bs.length).all fun i=>(bs[i]?).getD true)=bs.all id:=by
 induction bs with
 |nil=>rfl
 |cons b bs ih =>
  rw [zaj,List.range_succ_eq_map,List.all_cons,zb1]
  simp only [List.all_cons,List.getElem?_cons_zero,Option.getD_some,id]
  rw [<- ih]
  congr 1
theorem wM (hc:.bL):gy X (.builtin "all") mP:=by
 intro pins s σ H xs us Q I rx ⟨F,ts,t,sm,r,e,q⟩
 unfold mP at e
 split at e
 ·next ts =>
  obtain⟨bs,e1,e2⟩:=bind_some e
  cases e2
  obtain⟨v,rr,rfl,⟨p,vs,rfl,h1,h2⟩,rfl⟩:=r
  obtain⟨u,rfl,ru⟩:=Vals.one rx
  cases ru
  obtain⟨its,rv,pl,hz⟩:=I.list .fi
  have hb:=vw e1 h2 rv
  subst hb
  have hl:=pl.isList
  have hlt:@LT.lt Nat _ p s.heap.objs.size:=by obtain⟨_,e,_⟩:=hl;exact Heap.lt_size e
  refine call_all_walk (wpAny_pyIter_list hl ?_)
  refine⟨s.heap.objs.size,[s.heap.objs.size,p],[s.heap.objs.size],(bs.map Value.bool).toArray.size,_,_,fun i=>(bs[i]?).getD true,rfl,PySem.Walks.list (A:=X.A.in1) .cX _ p (zaq hlt) (bs.map Value.bool).toArray,
   ⟨.aZ,hl.push _⟩,fun i v s' Q' E' hP hQ=>?_,fun h' tk hk=>?_⟩
  ·have hP':(bs.map Value.bool)[i]? = some v:=by simpa using hP
   rw [zaT] at hP'
   cases eb:bs[i]? with
   |none=>rw [eb] at hP';cases hP'
   |some b =>
    rw [eb] at hP'
    have:v=.bool b:=(zaL hP').symm
    subst this
    simp only [eb,Option.getD_some] at hQ
    exact wpAny_truthy_bool hQ
  ·have e:((List.range (bs.map Value.bool).toArray.size).all fun i=>(bs[i]?).getD true)=bs.all id:=by
    rw [zaE,zah]
    exact range_all bs
   rw [e]
   exact⟨.bl _,H,I.kept (t':=tk) (Jn hk),rfl,q F H _ .ak rfl⟩
 ·cases e
def gh:List T->Option T
 |[.lst ts]=>some (.tup ts)
 |[.tup ts]=>some (.tup ts)
 |_=>none
theorem gf:gy X (.type "tuple") gh:=iE uv fun vs H Q hq__=>by
 obtain⟨F,ts,t,sm,r,e,q⟩:=hq__
 unfold gh at e
 split at e
 ·obtain⟨v,rr,rfl,⟨p,xs,rfl,h1,h2⟩,rfl⟩:=r
  cases e
  refine⟨p,xs,rfl,.inl ⟨gR.of (sm _ _ h1),fun l hl=>?_⟩⟩
  have gr:=bw.new .eJ sm hl
  exact q _ _ _ gr ⟨l,xs,rfl,mM.of aQ,aT.mono gr.sF h2⟩
 ·obtain⟨v,rr,rfl,⟨p,xs,rfl,h1,h2⟩,rfl⟩:=r
  cases e
  exact⟨p,xs,rfl,.inr ⟨cm sm h1,q F H _ .ak ⟨p,xs,rfl,h1,h2⟩⟩⟩
 ·cases e
theorem Ju:NI X "int.bit_length" (fun x vs H Q=>∃i,x=.int i/\vs=[]/\Q (.j (Builtin.Int.intBits i)) H):=by
 intro pins s σ H x vs v us Q I rx rv ⟨i,hx,hvs,q⟩
 subst hx;subst hvs
 obtain⟨t,rfl⟩:=rx
 have:=rv.zero
 subst this
 exact PyProof.Rows.call_int_bit_length ⟨.int _,H,I.tok _,.aB,q⟩
def sr:T->Option T
 | .int i=>some (.j (Builtin.Int.intBits i))
 |_=>none
theorem Di {e:Expr}{f:FE}{p2 p3:Pos}(he:SE X e f)(hbase:attributeBase e "bit_length" X.env (.Q e)=eval e X.env:=by rfl)(hline:(p2.endLine == p3.line)=true:=by rfl):
  SE X (.Call (.Attribute e "bit_length" p2) [] [] p3) (ux sr f):=fun Y0 Y9 =>
 PE.weak (Mf PySem.F.plainAttrs_int PySem.F.slot_int_bit_length PySem.F.type_int_bit_length Ju .fy hbase hline) fun σ H Q hq__=>by
  obtain⟨F,τ,t,τ',E,e1,q⟩:=hq__
  obtain⟨⟨x,τ1⟩,e2,e1⟩:=bind_some e1
  obtain⟨z,e4,e1⟩:=bind_some e1
  cases e1
  refine⟨F,τ,x,_,E,e2,fun F1 H1 v1 E1 s1 r1=>?_⟩
  dsimp only at e4
  unfold sr at e4
  split at e4
  ·cases e4;cases r1
   exact⟨rfl,_,rfl,rfl,q F1 H1 _ E1 s1 rfl⟩
  ·cases e4
theorem eV {x:Str}{i:Int}{t:Tok}{pos:Pos}(hg:Gl X x)(hm:X.mg x=some (.int i t))(hd:.L=false:=by decide):SE X .cC (fC (.j i)):=gk (oO (v:=.int i) hg hm .aB hd) fun _=>rfl
def aZ (f:FE):FA:=fun τ=>(f τ).bind fun p=>match p.1 with | .lst ts=>some (ts,p.2) | .scr ts=>some (ts,p.2) | .tup ts=>some (ts,p.2) | _=>none
theorem cL {tg l:Expr}{f:FE}(h:SE X l f):SI X tg l (aZ f):=by
 intro Y0 Y9 pins s σ H R I ⟨F,τ,ts,τ',E,e1,q⟩
 obtain⟨⟨x,τ1⟩,e2,e1⟩:=bind_some e1
 dsimp only at e1
 split at e1
 ·exact Du h Y0 Y9 pins s σ H R I ⟨F,τ,ts,τ',E,by unfold Bh;rw [e2];exact e1,q⟩
 ·exact Du h Y0 Y9 pins s σ H R I ⟨F,τ,ts,τ',E,by unfold Bh;rw [e2];exact e1,q⟩
 ·exact MO h Y0 Y9 pins s σ H R I ⟨F,τ,ts,τ',E,by unfold FQ;rw [e2];exact e1,q⟩
 ·cases e1
end
theorem IU {P:.am}{w:World}{K:.l}{mg:.G}{base:Heap}{x qual:Str}{st:Stmt}{f:Addr}{fd:.e5}{N ps:.Y}{k:Nat}{fb:FS}(F:.du)(S:aK N ps (ax st))
  (h:∀(cdv:Value) (A:Around) (outer:.e4) (s:Shared) (H:Hp) (E:XK),eN k .aK->AV (rS ur P w K mg base N qual (ax st) f cdv A outer s H E).nox (ff st) fb):
  iz P w K mg base ur (k+1) f fd ps (spT K ps.length (cg N.length ps.length fb)):=by
 refine F.ok S (fun vs H Q E z=>z.1) .cG
 obtain⟨hl,F1,ts,t,sm,r,e,q⟩:=z
 unfold cg at e
 split at e
 ·next hn =>
  obtain⟨r',e1,e⟩:=bind_some e
  refine⟨_,h cdv A outer s H E hr F1 H,F1,_,r',?_,e1,?_⟩
  ·have:=jK (N:=N) sm r
   rw [hn] at this
   exact this
  ·cases r' with
   |rt u=>cases e;exact fun F' H' v g r'=>q F' H' v g r'
   |nx τ=>cases e;exact fun F' H' σ' E' s'=>q F' H' .non E'.g rfl
   |bk τ=>cases e
   |ct τ=>cases e
 ·cases e
theorem SS.any {X:Cx}{st:Stmt}{fs:FS}(h:SS X st fs):PS X st (fun D σ H=>∃Y0 Y9,tS X.K Y0 Y9 fs D σ H):=fun pins s σ H D I ⟨Y0,Y9,q⟩=>h Y0 Y9 pins s σ H D I q
section
variable {K:.l}{F0 H0 F H F1 H1:Hp}{p:Addr}{os:List O}{A:.aj}
def AY:List O->Bool
 |[]=>true
 | .val _::r=>AY r
 |_::_=>false
theorem cP.plain:∀{ro:List O} {ws:List V} {C:.aj},AY ro=true->cP K F H ro ws C->C=[]/\aT K F (O.trs ro) ws
 |[],ws,C,_,h=>⟨h.2,h.1⟩
 | .val t::r,ws,C,ha,h=>by
  obtain⟨v,q,B,D,rfl,rfl,⟨rfl,h1⟩,h2⟩:=h
  obtain⟨rfl,h3⟩:=cP.plain (ro:=r) ha h2
  exact⟨rfl,v,q,rfl,h1,h3⟩
 | .lst _::r,ws,C,ha,h=>by cases ha
theorem uc:∀(ts:List T),O.trs (ts.map O.val)=ts
 |[]=>rfl
 |t::ts=>by rw [zaf,O.trs,uc ts];rfl
end
def Sr (K:.l)(n:Nat)(d:List T->Option O):Sp:=fun vs H Q _=>vs.length=n/\∃F ts o,aV F H/\aT K F ts vs/\d ts=some o /\
 ∀F' H' v A,bw F H F' H'->iB K F' H' o v A->A.Nodup->(∀a∈A,H a=none)->Q v H'
structure yM (P:.am)(w:World)(K:.l)(mg:.G)(base:Heap)(k:Nat)(x:Str)(n:Nat)(d:List T->Option O):Prop where
 ex:∃f fd ps,iz P w K mg base ur k f fd ps (Sr K n d)/\Binds K fd ps []/\PySem.W.keepIn K (.c f)=true/\mg x=some (.c f)/\ps.length=n
section
variable {P:.am}{w:World}{K:.l}{mg:.G}{base:Heap}{j k n:Nat}{x:Str}
theorem yM.mono {d:List T->Option O}(D:yM P w K mg base j x n d)(h:j≤k):yM P w K mg base k x n d:=by
 obtain⟨f,fd,ps,F,r⟩:=D.ex
 exact⟨f,fd,ps,F.mono h,r⟩
end
section
variable {X:Cx}{e:Expr}{es:.az}{pos:Pos}{g:FA}
def lG (d:List T->Option O)(g:FA):uu:=fun τ=>(g τ).bind fun p=>(d p.1).bind fun o=>some (o,p.2)
theorem Fh {K:.l}{Y0 Y9 F H:Hp}{σ:L2.St}{τ:aD}{A:.aj}(E:.aG)(n:∀a∈A,H a=none):Apart σ τ A:=fun j us q e1 e2 m=>by
 obtain⟨v,k1,p',vs',rfl,k2,_⟩:=E.sl j _ e1
 rw [e2] at k1;cases k1
 rw [n _ m] at k2;cases k2
theorem AB {k n:Nat}{x:Str}{p:Pos}{d:List T->Option O}(D:yM X.prog X.w X.K X.mg X.base k x n d)(hr:eN k X.A)(hg:Gl X x)(ha:SA X (e::es) g)(hl:∀τ ts τ',g τ=some (ts,τ')->ts.length=n)(hdb:.L=false:=by decide)
  (he:starEach (e::es) X.env=(.i e)::starEach es X.env:=by rfl) (hpl:(backTo pos .a6).any (·.1)=false:=by rfl):EW X .aV (lG d g):=by
 obtain⟨f,fd,ps,F,hb,hk,hm,hn⟩:=D.ex
 intro Y0 Y9
 refine PE.weak (Dd (E:=E0) (CX:=ur) F hr hg hm hk hb .nil Ad .b3 hdb he hpl) fun σ H Q h=>?_
 obtain⟨F,τ,c,τ',E,e1,q⟩:=h
 obtain⟨⟨z,τ1⟩,e2,e1⟩:=bind_some e1
 have hz:=hl _ _ _ e2
 obtain⟨u,e4,e1⟩:=bind_some e1
 cases e1
 refine⟨F,τ,z,_,E,e2,fun F1 H1 vs E1 s1 r1=>⟨by rw [zax,r1.length];exact hz,F1,z,c,E1.g.fh,by rw [zax];exact r1,e4,fun F3 H3 v3 A g3 r3 nd h0=>?_⟩⟩
 exact q F3 H3 v3 A (E1.grow g3) (s1.trans g3.sF) r3 nd (fun a ha=>E1.g.sH.free (h0 a ha)) (Fh E1 h0)
abbrev Kr:=aD->Option O
def SD (K:.l)(Y0 Y9:Hp)(f:Kr):TS:=fun D σ H=>∃F τ o,aJ K Y0 Y9 F H σ τ/\f τ=some o/\∀F' H' v A,bw Y0 Y9 F' H'->iB K F' H' o v A->A.Nodup->(∀a∈A,Y9 a=none)->D.rt v H'
def RD (X:Cx)(ss:.bG)(f:Kr):Prop:=∀Y0 Y9,mK X ss (SD X.K Y0 Y9 f)
def CC (f:uu):Kr:=fun τ=>(f τ).bind fun p=>some p.1
theorem Kf {f:uu}(h:EW X e f):RD X [.Return (some e) pos] (CC f):=fun Y0 Y9=>mK.weak (yb (Hw .c3)) fun D σ H hq__=>by
 obtain⟨F,τ,o,E,e1,q⟩:=hq__
 obtain⟨⟨x,τ1⟩,e2,e1⟩:=bind_some e1
 cases e1
 exact⟨F,τ,_,τ1,E,e2,fun F' H' v A E' _ r nd h0 _=>q F' H' v A E'.g r nd h0⟩
def N5 (t:FS)(u:Kr):Kr:=fun τ=>(t τ).bind fun r=>match r with | .nx τ'=>u τ' | _=>none
end
def IK (m n:Nat)(fb:Kr):List T->Option O:=fun ts=>if ts.length=n then fb .bN else none
section
variable {P:.am}{w:World}{K:.l}{mg:.G}{base:Heap}
theorem IQ {x qual:Str}{st:Stmt}{f:Addr}{fd:.e5}{N ps:.Y}{k:Nat}{fb:Kr}(F:.du)(S:aK N ps (ax st))(hb:Binds K fd ps [])(hm:mg x=some (.c f))
  (h:∀(cdv:Value) (A:Around) (outer:.e4) (s:Shared) (H:Hp) (E:XK),eN k .aK->RD (rS ur P w K mg base N qual (ax st) f cdv A outer s H E).nox (ff st) fb):
  yM P w K mg base (k+1) x ps.length (IK N.length ps.length fb):=by
 refine⟨f,fd,ps,F.ok S (fun vs H Q E z=>z.1) .cG,hb,F.kp,hm,rfl⟩
 obtain⟨hl,F1,ts,o,sm,r,e,q⟩:=z
 unfold IK at e
 split at e
 ·next hn =>
  refine⟨_,h cdv A outer s H E hr F1 H,F1,_,o,?_,e,fun F' H' v A g ro nd h0=>q F' H' v A g ro nd h0⟩
  have:=jK (N:=N) sm r
  rw [hn] at this
  exact this
 ·cases e
end
section
variable {X:Cx}{e:Expr}{es:.az}{pos:Pos}{g:FA}
def Lw (fo:uu)(g:FA)(d:O->List T->Option T):FE:=fun τ=>(fo τ).bind fun p=>if bL p.2=true then (g p.2).bind fun r=>if bL r.2=true then (d p.1 r.1).bind fun t=>some (t,r.2) else none else none
def FL (fo:uu)(f:FE):FS:=fun τ=>(fo τ).bind fun p=>match p.1 with
 | .lst os=>if bL p.2=true/\os.length<sizeLine then (f p.2).bind fun r=>if bL r.2=true then some (.nx r.2) else none else none
 |_=>none
theorem Az {x:Str}{a:Addr}{i j:Int}{t t':Tok}{od:.cS}{n:Nat}{sl:Array (Option Value)}{pos:Pos}(hg:Gl X x)(hm:X.mg x=some (.c a))(hK:X.K.lookup a=some ⟨.type "tuple", od,.seq #[.int i t,.int j t'] n,sl⟩)(hd:.L=false:=by decide):
  SE X .cC (fC (.tup [.int i,.int j])):=
 gk (oO (v:=.ref a) hg hm rfl hd) fun F=>⟨a,[.int i,.int j],rfl,.inr ⟨_,_,n,hK,rfl,rfl,aW (n:=2) .f,.cons .aB (.aq .aB)⟩,⟨_,_,rfl,rfl,_,_,rfl,rfl,rfl⟩⟩
def w6:T->T->Option T
 | .lst ts,.int k=>if (-(2^63)≤k/\k<2^63)/\ts.length*k.toNat≤sizeLine then some (.al ts) else none
 |_,_=>none
theorem Ak {K:.l}{F:Hp}{ts:List T}{vs:List V}(h:aT K F ts vs):∀k:Nat,aT K F (List.replicate k ts).flatten (List.replicate k vs).flatten
 |0=>rfl
 |k+1=>by
  rw [zaF,zaF,zaN,zaN]
  exact h.append (Ak h k)
theorem Hb:lr X (binaryOp .Mult) w6:=by
 intro pins s σ H x y v u Q I rx ry ⟨F,a,b,t,sm,ra,rb,e,q⟩
 unfold w6 at e
 split at e
 ·next ts k =>
  split at e
  ·next hc =>
   cases e
   obtain⟨p,xs,rfl,h1,h2⟩:=ra
   cases rb
   refine L9 pins s σ H _ _ v u Q I rx ry ⟨p,k,xs,rfl,rfl,sm _ _ h1,hc.1.1,hc.1.2,by rw [h2.length];exact hc.2,fun l hl=>?_⟩
   have gr:=bw.new (.al xs) sm hl
   exact q _ _ _ gr ⟨l,_,rfl,aQ,aT.mono gr.sF (Ak h2 _)⟩
  ·cases e
 ·cases e
end
section
variable {X:Cx}
end
section
variable {prog:.am}{w:World}{A:Around}{E:.m}{s:Shared}
end
section
variable {X:Cx}
end
section
variable {prog:.am}{w:World}{A:Around}{R:.e3}{I:Addr}{fp wr:.aj}{n:Nat}{P:Nat->Value->Prop}{St:Nat->Heap->Prop}{kw:.eb}
end
section
variable {prog:.am}{w:World}{A:Around}{E:.m}{s:Shared}
end
section
variable {X:Cx}
end
section
variable {X:Cx}
end
theorem rl:∀ts:List T,AY (ts.map O.val)=true
 |[]=>rfl
 |_::ts=>rl ts
theorem SI.any {X:Cx}{tg e:Expr}{f:FA}(h:SI X tg e f):PI X tg e (fun σ H R=>∃Y0 Y9,tI X.K Y0 Y9 f σ H R):=fun pins s σ H R I ⟨Y0,Y9,q⟩=>h Y0 Y9 pins s σ H R I q
def kd:T->Nat
 | .non=>1 | .bl _=>2 | .int _=>0 | .str _=>3 | .ty _=>4 | .tup _=>5 | .lst _=>5 | .scr _=>5 | .dct _ _=>5 | .obj _ _ _=>5 | .ptr _=>5 | .exc _ _ _=>5
def PV (us ts:List T):Bool:=us.length != ts.length||(List.zip us ts).any fun p=>kd p.1 != kd p.2
mutual
def apart (us:List T):T->Bool
 | .tup ts=>jj us ts
 | .lst ts=>PV us ts&&jj us ts
 | .scr _=>false
 | .obj _ _ ts=>jj us ts
 | .dct _ ts=>jj us ts
 | .exc _ _ ts=>jj us ts
 |_=>true
def jj (us:List T):List T->Bool
 |[]=>true
 |t::ts=>apart us t&&jj us ts
end
def Sg:V->Nat
 | .non=>1 | .bl _=>2 | .int _=>0 | .str _=>3 | .ty _=>4 | .ref _=>5 | _=>6
theorem Ox {K:.l}{F:Hp}{t:T}{v:V}(h:Rep K F t v):kd t=Sg v:=by
 cases t with
 |non=>rw [show v=_ from h];rfl
 |bl b=>rw [show v=_ from h];rfl
 |int b=>rw [show v=_ from h];rfl
 |str b=>rw [show v=_ from h];rfl
 |ty b=>rw [show v=_ from h];rfl
 |tup ts=>obtain⟨a,xs,e,_⟩:=h;rw [e];rfl
 |lst ts=>obtain⟨a,xs,e,_⟩:=h;rw [e];rfl
 |scr ts=>obtain⟨a,xs,e,_⟩:=h;rw [e];rfl
 |dct _ _=>obtain⟨a,_,_,e,_⟩:=h;rw [e];rfl
 |obj _ _ _=>obtain⟨a,_,_,e,_⟩:=h;rw [e];rfl
 |ptr _=>rw [show v=_ from h];rfl
 |exc _ _ _=>obtain⟨a,_,e,_⟩:=h;rw [e];rfl
theorem LR {K:.l}{F:Hp}{t u:T}{v:V}(h:Rep K F t v)(h':Rep K F u v):kd t=kd u:=(Ox h).trans (Ox h').symm
theorem Cu {K:.l}{F:Hp}:∀{us ts:List T} {vs:List V},aT K F us vs->aT K F ts vs->PV us ts=false
 |[],[],_,_,_=>rfl
 |[],t::ts,_,h,h'=>by
  obtain⟨v,r,e,_⟩:=h'
  rw [show _=[] from h] at e;cases e
 |u::us,[],_,h,h'=>by
  obtain⟨v,r,e,_⟩:=h
  rw [show _=[] from h'] at e;cases e
 |u::us,t::ts,_,h,h'=>by
  obtain⟨v,r,rfl,h1,h2⟩:=h
  obtain⟨v',r',e,h3,h4⟩:=h'
  cases e
  have ih:=Cu h2 h4
  unfold PV at ih ⊢
  simp only [List.length_cons,List.zip_cons_cons,List.any_cons,LR h1 h3,bne_self_eq_false,Bool.false_or] at ih ⊢
  simpa using ih
mutual
theorem Rep.drop {K:.l}{F:Hp}{a:Addr}{us:List T}{vs:List V}(ha:F a=some .bC)(hu:aT K F us vs):∀{t:T} {v:V},apart us t=true->Rep K F t v->Rep K (om F [a]) t v
 | .non,_,_,h=>h
 | .bl _,_,_,h=>h
 | .int _,_,_,h=>h
 | .str _,_,_,h=>h
 | .ty _,_,_,h=>h
 | .tup ts,_,k,h=>by
  obtain⟨b,xs,h1,h2,h3⟩:=h
  refine⟨b,xs,h1,?_,aT.drop' ha hu (by simpa [apart] using k) h3⟩
  rcases h2 with (h2 | ⟨o,h2⟩) | h2
  ·refine .inl (.inl ?_)
   rw [di (fun m=>by rw [zac.mp m,ha] at h2;cases h2)];exact h2
  ·refine .inl (.inr ⟨o,?_⟩)
   rw [di (fun m=>by rw [zac.mp m,ha] at h2;cases h2)];exact h2
  ·exact .inr h2
 | .lst ts,_,k,h=>by
  obtain⟨b,xs,h1,h2,h3⟩:=h
  have k':PV us ts=true/\jj us ts=true:=by simpa [apart] using k
  refine⟨b,xs,h1,?_,aT.drop' ha hu k'.2 h3⟩
  rw [di (fun m=>by
   rw [zac.mp m,ha] at h2
   cases h2
   rw [Cu hu h3] at k'
   exact absurd k'.1 .f)]
  exact h2
 | .scr _,_,k,_=>by simp [apart] at k
 | .dct ns ts,_,k,h=>by
  obtain⟨b,ob,xs,h1,h2,h3,h4⟩:=h
  refine⟨b,ob,xs,h1,?_,h3,aT.drop' ha hu (by simpa [apart] using k) h4⟩
  rw [di (fun m=>by rw [zac.mp m,ha] at h2;cases h2)]
  exact h2
 | .obj C ns ts,_,k,h=>by
  obtain⟨b,dx,xs,h1,h2,h3,h4⟩:=h
  refine⟨b,dx,xs,h1,?_,h3,aT.drop' ha hu (by simpa [apart] using k) h4⟩
  rw [di (fun m=>by rw [zac.mp m,ha] at h2;cases h2)]
  exact h2
 | .ptr _,_,_,h=>h
 | .exc _ _ ts,_,k,h=>by
  obtain⟨b,od,h1,h2,h3⟩:=h
  refine⟨b,od,h1,?_,h3.imp id fun⟨d,vs',k1,k2,k3,k4⟩=>⟨d,vs',k1,?_,k3,aT.drop' ha hu (by simpa [apart] using k) k4⟩⟩
  ·rw [di (fun m=>by rw [zac.mp m,ha] at h2;cases h2)]
   exact h2
  ·rw [di (fun m=>by rw [zac.mp m,ha] at k2;cases k2)]
   exact k2
theorem aT.drop' {K:.l}{F:Hp}{a:Addr}{us:List T}{vs:List V}(ha:F a=some .bC)(hu:aT K F us vs):∀{ts:List T} {ws:List V},jj us ts=true->aT K F ts ws->aT K (om F [a]) ts ws
 |[],_,_,h=>h
 |t::ts,_,k,h=>by
  obtain⟨v,r,h1,h2,h3⟩:=h
  have k':apart us t=true/\jj us ts=true:=by simpa [jj] using k
  exact⟨v,r,h1,Rep.drop ha hu k'.1 h2,aT.drop' ha hu k'.2 h3⟩
end
theorem bw.lent {F H F' H':Hp}{a:Addr}{o:HO}(hF:F a=none)(g:bw (upd F a o) H F' H'):bw F H (om F' [a]) H':=by
 have sF:aV F (om F' [a]):=fun b u e=>by
  have hb:b≠a:=fun z=>by rw [z,hF] at e;cases e
  rw [di (fun m=>hb (zac.mp m))]
  exact g.sF b u (by rw [aE hb];exact e)
 refine⟨sF,g.sH,fun b u e=>?_,fun b u e=>?_⟩
 ·by_cases hb:b=a
  ·rw [hb,oo .cn] at e;cases e
  ·rw [di (fun m=>hb (zac.mp m))] at e
   exact g.fh b u e
 ·by_cases hb:b=a
  ·rw [hb,oo .cn] at e;cases e
  ·rw [di (fun m=>hb (zac.mp m))] at e
   rcases g.nw b u e with z | z
   ·rw [aE hb] at z;exact .inl z
   ·exact .inr z
section
variable {X:Cx}{e:Expr}{pos:Pos}
end
def Qr (K:.l)(l:Addr):It:=
  ⟨fun i H=>∃xs x,gR K H l xs/\xs[i]? = some x,
   fun i H v H'=>∃p x,v=.ref p/\H p=none/\H'=upd H p (.tup [.int i,x])/\∀xs,gR K H l xs->xs[i]? = some x,
   fun i H=>∃xs,gR K H l xs/\xs.length≤i⟩
structure RX (e it l:Addr)(i:Nat)(h:Heap):Prop where
 he:∃old,IsEnum h e it (i:Int) old
 hi:h.IsListIter it l i
theorem EM {P:.am}{w:World}{K:.l}{elts:.az}{kx:Nat}{px:Pos}{e it l:Addr}(hei:e≠it):
  Turn P w K .ep (Qr K l) [e,it] e (RX e it l) where
 mem:=.h
 obj:=fun i h st b hb=>by
  simp only [List.mem_cons,List.not_mem_nil,or_false] at hb
  rcases hb with rfl | rfl
  ·obtain⟨old,q⟩:=st.he
   exact⟨_,q,fun v q=>nomatch (show Data.fields _=Data.cell v from q)⟩
  ·obtain⟨o,ho,hc,hd⟩:=st.hi
   exact⟨o,ho,fun v q=>by rw [hd] at q;cases q⟩
 keep:=fun i h h' st k=>by
  obtain⟨old,q⟩:=st.he
  exact⟨⟨old,k e .h _ q⟩,st.hi.at fun o x=>k it .h o x⟩
 item:=fun X hP hw hK hc i pins s σ H E I hf st hg=>by
  subst hP hw hK
  obtain⟨xs,x,q1,g1⟩:=hg
  obtain⟨its,r1,p1⟩:=kR (b:=true) I q1
  obtain⟨u,e1,ru⟩:=r1.get g1
  obtain⟨old,he⟩:=st.he
  refine wpAny_pyNext_enum_item he st.hi p1 (x:=u) (by simpa using e1) hei fun h' ho hit' hT hsz hk=>⟨_,rfl,?_⟩
  refine wpAny_letOwnedTupleGo_enum (s:={ s with heap:=h',toks:=s.toks+1 }) ho fun h2 b1 b2=>?_
  have le:e<s.heap.objs.size:=Heap.lt_size he
  have li:it<s.heap.objs.size:=by obtain⟨_,x,_⟩:=st.hi;exact Heap.lt_size x
  have kp:∀b o,b∉[e,it]->s.heap.get? b=some o->h2.get? b=some o:=fun b o hb z=>by
   simp only [List.mem_cons,List.not_mem_nil,or_false,not_or] at hb
   exact (b2.2 b hb.1).trans (hk b o hb.1 hb.2 z)
  have pr:h2.get? s.heap.objs.size=some { cls:=.type "tuple", data:=.seq #[.int i s.toks,u] }:=(b2.2 _ (zaU le)).trans hT
  have fr:H s.heap.objs.size=none:=I.hok.fresh .bU
  have hokA:ly X.prog X.w (.z (.tup [.int i,x])) h2:=by
   intro c o z
   by_cases hcz:c=s.heap.objs.size
   ·subst hcz
    rw [aQ] at z;cases z
    exact⟨by show 2≤sizeLine;decide,[.int i s.toks,u],.cons .aB (.aq ru),_,pr,rfl,_,rfl⟩
   ·rw [aE hcz] at z
    have nf:∀d o',H d=some o'->d∉[e,it]:=fun d o' ed hd=>by rw [(hf d hd).1] at ed;cases ed
    have up:∀d o',H d=some o'->upd H s.heap.objs.size (.tup [.int i,x]) d=some o':=fun d o' ed=>by rw [aE (bx ed fr)];exact ed
    refine (I.hok c o z).stay (fun d v' hd q=>kp d v' ?_ q) (fun d q=>up d _ q) fun d xs q=>up d _ q
    rcases hd with rfl | hd
    ·exact nf _ o z
    ·exact nf d _ hd
  have J:Inv X pins σ (.z (.tup [.int i,x])) { s with heap:=h2,toks:=s.toks+1 }:=by
   have ne:∀b o,s.heap.get? b=some o->b≠s.heap.objs.size:=fun b o e=>zaq .aF
   refine I.step (g':=s.gens) (d':=s.drawn) (t':=s.toks+1) (ch:=[e,it]) (fun b hb=>?_) (fun b o _ _ hc e _=>kp b o hc e) .eP (fun b o _ e n=>by rw [aE (ne b o e)];exact n)
    (fun b o hc e=>⟨o,kp b o hc e⟩) (fun b xs e=>by rw [aE (bx e fr)];exact e) (fun b o u e=>by rw [aE (bx e fr)];exact e) (fun b ps e=>⟨#[],by rw [aE (bx e fr),e];simp⟩) (fun m hm=>?_) hokA I.bare
   ·obtain⟨_,f1,_,f3,f4,f5⟩:=hf b hb
    exact⟨f3,f1,f4,f5⟩
   ·obtain⟨o,es,ep,ho,r⟩:=hm
    exact⟨o,es,ep,kp _ o (fun q=>(hf _ q).2.1 rfl) ho,r⟩
  refine⟨.ref s.heap.objs.size,_,J,rfl,⟨_,x,rfl,fr,rfl,fun xs' h=>by rw [I.list_inj h q1];exact g1⟩,⟨⟨u,by simpa using b1⟩,hit'.at fun o z=>(b2.2 it (Ne.symm hei)).trans z⟩,fun b hb=>?_⟩
  have:b≠s.heap.objs.size:=by
   simp only [List.mem_cons,List.not_mem_nil,or_false] at hb
   rcases hb with rfl | rfl
   ·exact zaq le
   ·exact zaq li
  rw [aE this]
  exact (hf b hb).1
 done:=fun X hP hw hK hc i pins s σ H E I hf st hg=>by
  subst hP hw hK
  obtain⟨xs,q1,g⟩:=hg
  obtain⟨its,r1,p1⟩:=kR (b:=true) I q1
  obtain⟨old,he⟩:=st.he
  have n1:=r1.length
  refine wpAny_pyNext_enum_end .cX he st.hi p1 .j fun h' k=>⟨rfl,ud I hf fun b o hb e=>?_⟩
  simp only [List.mem_cons,List.not_mem_nil,or_false,not_or] at hb
  exact k b o hb.2 e
 self:=fun _ _ _ _ _ st h=>by
  obtain⟨old,he⟩:=st.he
  exact wpAny_pyIter_enum he h
def yI (k:Nat):List T->List T
 |[]=>[]
 |t::ts=>.tup [.int k,t]::yI (k+1) ts
theorem sj:∀(ts:List T) (k:Nat),(yI k ts).length=ts.length
 |[],_=>rfl
 |t::ts,k=>by simp [yI,sj ts]
theorem wW:∀(ts:List T) (k i:Nat) (t:T),(yI k ts)[i]? = some t->∃u,ts[i]? = some u/\t=.tup [.int ((k+i:Nat):Int),u]
 |[],_,_,_,h=>by simp [yI] at h
 |u::ts,k,0,t,h=>by
  simp [yI] at h
  exact⟨u,rfl,by simp [h]⟩
 |u::ts,k,i+1,t,h=>by
  obtain⟨v,e1,e2⟩:=wW ts (k+1) i t (by simpa [yI] using h)
  exact⟨v,by simpa using e1,by rw [e2];congr 4;omega⟩
theorem B8 {K:.l}{F:Hp}{l:Addr}{xs:List V}{ts:List T}(h1:gR K F l xs)(h2:aT K F ts xs):Walks K F (yI 0 ts) (Qr K l):=by
 refine⟨fun i t F1 H1 e s1 s2=>?_,fun i t F1 H1 x H2 e s1 s2 y=>?_,fun F1 H1 s1 s2=>⟨xs,(s1.trans s2).seq h1,by rw [sj,h2.length];exact zak _⟩⟩
 ·obtain⟨u,e1,_⟩:=wW ts 0 i t e
  obtain⟨v,g1,_⟩:=h2.get e1
  exact⟨xs,v,(s1.trans s2).seq h1,g1⟩
 ·obtain⟨p,v,rfl,hp,rfl,q1⟩:=y
  obtain⟨u,e1,rfl⟩:=wW ts 0 i t e
  obtain⟨v',g1,k1⟩:=h2.get e1
  have m1:=q1 xs ((s1.trans s2).seq h1)
  rw [g1] at m1;cases m1
  have gr:=bw.new (.tup [.int i,v]) s2 hp
  exact⟨_,gr,p,_,rfl,mM.of aQ,.int i,[v],rfl,by show V.int _=V.int _;rw [Nat.zero_add],v,[],rfl,Rep.mono (s1.trans gr.sF) k1,rfl⟩
def km (g:FA):FA:=fun τ=>(g τ).bind fun p=>match p.1 with
 |[.lst ts]=>some (yI 0 ts,p.2)
 |_=>none
theorem Dt {X:Cx}{a:Expr}{p pos:Pos}{ga:FA}{elts:.az}{kx:Nat}{px:Pos}(hg:Gl X "enumerate")(hm:X.mg "enumerate" = none)(ha:SA X [a] ga)(hs:starEach [a] X.env=[(.i a)]:=by rfl):
  SI X .ep (.Call (.Name "enumerate" p) [a] [] pos) (km ga):=by
 intro Y0 Y9 pins s σ H R I ⟨F,τ,ts,τ',E,e1,q⟩
 obtain⟨⟨x,τ1⟩,e2,e1⟩:=bind_some e1
 dsimp only at e1
 split at e1
 ·next us =>
  cases e1
  refine Call_ (pI I hg hm (show bootBuiltins "enumerate" = some (.type "enumerate") from rfl) (za5 (cR (ha Y0 Y9 pos pins s σ H (fun vs H'=>∃l xs,vs=[.ref l]/\gR X.K H' l xs/\R (Qr X.K l) H') I ⟨F,τ,_,_,E,e2,fun F' H' vs E' s' r'=>?_⟩) fun vs s1 ⟨ws',H1,I1,r1,q1⟩=>?_) hs rfl))
  ·obtain⟨v1,r1,rfl,k1,rfl⟩:=r'
   obtain⟨l,xs,rfl,h1,h2⟩:=k1
   exact⟨l,xs,rfl,gR.of (E'.g.fh _ _ h1),q F' H' _ E' s' (B8 (gR.of h1) h2)⟩
  ·obtain⟨l,xs,rfl,h1,q1⟩:=q1
   obtain⟨u,rfl,ru⟩:=r1.one
   cases ru
   obtain⟨its,_,p1⟩:=kR (b:=true) I1 h1
   refine call_enumerate_list p1 fun h' a1 a2 a3 kp=>wpAny_pyIter_enum (s:={ s1 with heap:=h' }) a1 ?_
   have J:Inv X pins σ H1 { s1 with heap:=h' }:=I1.kept (t':=s1.toks) kp
   refine⟨_,[_,_],_,_,H1,rfl,J,EM (e:=s1.heap.objs.size+1) (it:=s1.heap.objs.size) (l:=l) ?_,⟨⟨_,a1⟩,a2⟩,fun b hb=>?_,q1⟩
   ·refine (?_:@Ne Nat _ _);omega
   ·have hb':s1.heap.objs.size≤b:=by
     simp only [List.mem_cons,List.not_mem_nil,or_false] at hb
     rcases hb with rfl | rfl
     ·exact zbV _
     ·exact zak _
    exact I1.fpOk hb' (I1.hok.fresh hb')
 ·cases e1
def hide:aD->aD
 |[]=>[]
 |some (.own _)::τ=>none::hide τ
 |'0' t::τ=>'0' t::hide τ
 |none::τ=>none::hide τ
theorem jb:∀τ:aD,(hide τ).length=τ.length
 |[]=>rfl
 |some (.own _)::τ=>by simp [hide,jb τ]
 |'0' t::τ=>by simp [hide,jb τ]
 |none::τ=>by simp [hide,jb τ]
theorem oG:∀{τ:aD} {j:Nat} {s:Sl},(hide τ)[j]? = some (some s)->τ[j]? = some (some s)/\∃t,s=.sh t
 |[],j,s,h=>by simp [hide] at h
 |some (.own _)::τ,0,s,h=>by simp [hide] at h
 |'0' t::τ,0,s,h=>by simp [hide] at h;subst h;exact⟨rfl,t,rfl⟩
 |none::τ,0,s,h=>by simp [hide] at h
 |some (.own _)::τ,j+1,s,h=>by simpa using oG (τ:=τ) (j:=j) (by simpa [hide] using h)
 |'0' t::τ,j+1,s,h=>by simpa using oG (τ:=τ) (j:=j) (by simpa [hide] using h)
 |none::τ,j+1,s,h=>by simpa using oG (τ:=τ) (j:=j) (by simpa [hide] using h)
section
variable {K:.l}{Y0 Y9 F H F' H':Hp}{σ:L2.St}{τ:aD}
theorem aJ.look {i:Nat}{us:List T}{vs:List V}{a:Addr}(E:.aG)(hs:σ[i]? = some (.J a))(h2:H a=some .bC)(h3:F a=none)(h5:aT K F us vs):
  aJ K (upd F a .bC) H (upd F a .bC) H σ ((hide τ).set i (.y (.lst us))):=by
 have sF:aV F (upd F a .bC):=dz h3
 have sH:aV (upd F a .bC) H:=fun b o eb=>by
  by_cases hb:b=a
  ·rw [hb,aQ] at eb;cases eb;rw [hb];exact h2
  ·rw [aE hb] at eb;exact E.g.fh b o eb
 have rp:Rep K (upd F a .bC) (.lst us) (.c a):=⟨a,vs,rfl,aQ,aT.mono sF h5⟩
 have all:∀{j:Nat} {s:Sl},((hide τ).set i (.y (.lst us)))[j]? = some (some s)->(∃t,s=.sh t)/\∃v,σ[j]? = some .dw/\DN K H (upd F a .bC) H s v:=fun {j s} e=>by
  by_cases hj:i=j
  ·subst hj
   by_cases hl:i<(hide τ).length
   ·rw [zam hl] at e;cases e
    exact⟨.aB,_,hs,rp⟩
   ·rw [List.getElem?_eq_none .j] at e;cases e
  ·rw [zal hj] at e
   obtain⟨e1,t,rfl⟩:=oG e
   obtain⟨v,k1,k2⟩:=E.sl j _ e1
   exact⟨⟨t,rfl⟩,v,k1,Rep.mono sF k2⟩
 refine⟨bw.refl sH,by simp [jb,E.len],fun j s e=>(all e).2,fun j k ts ws p _ e1=>?_⟩
 obtain⟨t,z⟩:=(all e1).1
 cases z
theorem aJ.setSh {i:Nat}{t:T}{v:V}(E:.aG)(hs:σ[i]? = some .dw)(r:Rep K F t v):aJ K Y0 Y9 F H σ (τ.set i (.y t)):=by
 have:=E.set (i:=i) r
 rw [show σ.set i .dw=σ from by
  have hi:i<σ.length:=(zas.mp hs).1
  apply List.ext_getElem?
  intro j
  by_cases hj:i=j
  ·subst hj;rw [zam hi,hs]
  ·rw [zal hj]] at this
 exact this
theorem aJ.drop {i:Nat}(E:.aG):aJ K Y0 Y9 F H σ (τ.set i none):=by
 have key:∀{j:Nat} {s:Sl},(τ.set i none)[j]? = some (some s)->τ[j]? = some (some s):=fun {j s} e=>by
  by_cases hj:i=j
  ·subst hj
   by_cases hl:i<τ.length
   ·rw [zam hl] at e;cases e
   ·rw [List.getElem?_eq_none .j] at e;cases e
  ·rw [zal hj] at e;exact e
 exact⟨E.g,by simp [E.len],fun j s e=>E.sl j s (key e),fun j k ts us p hjk e1 e2=>E.dj j k ts us p hjk (key e1) (key e2)⟩
theorem aJ.putOwn2 {i:Nat}{ts:List T}{vs:List V}{p:Addr}(E:.aG)(hp:H p=some .bC)(fp:F p=none)(h0:Y9 p=none)(ap:Apart σ τ [p])(r:aT K F ts vs):
  aJ K Y0 Y9 F H (σ.set i (.J p)) (τ.set i (.v ts)):=by
 refine⟨E.g,by simp [E.len],fun j s e=>?_,fun j k ts' us q hjk e1 e2 e3 e4=>?_⟩
 ·by_cases hj:i=j
  ·subst hj
   by_cases hl:i<τ.length
   ·rw [zam hl] at e
    cases e
    exact⟨.ref p,zam .cW,p,vs,rfl,hp,fp,h0,r⟩
   ·rw [List.getElem?_eq_none .j] at e;cases e
  ·rw [zal hj] at e
   rw [zal hj]
   exact E.sl j s e
 ·by_cases hj:i=j
  ·subst hj
   rw [zal hjk] at e2 e4
   by_cases hl:i<τ.length
   ·rw [zam .cW] at e3
    cases e3
    exact ap k us p e2 e4 .cn
   ·rw [List.getElem?_eq_none .j] at e1;cases e1
  ·rw [zal hj] at e1 e3
   by_cases hk:i=k
   ·subst hk
    by_cases hl:i<τ.length
    ·rw [zam .cW] at e4
     cases e4
     exact ap j ts' p e1 e3 .cn
    ·rw [List.getElem?_eq_none .j] at e2;cases e2
   ·rw [zal hk] at e2 e4
    exact E.dj j k ts' us q hjk e1 e2 e3 e4
end
section
variable {X:Cx}{e:Expr}{pos:Pos}
def sk (i:Nat)(f:FE):FE:=fun τ=>match τ[i]? with
 |some (.v us)=>(f ((hide τ).set i (.y (.lst us)))).bind fun p=>some (p.1,if apart us p.1=true then τ else τ.set i (.y (.lst us)))
 |_=>f τ
theorem J7 (i:Nat){f:FE}(h:SE X e f):SE X e (sk i f):=fun Y0 Y9=>PE.weak h.any fun σ H Q hq__=>by
 obtain⟨F,τ,t,τ',E,e1,q⟩:=hq__
 unfold sk at e1
 split at e1
 ·next us e3 =>
  obtain⟨⟨x,τ1⟩,e2,e1⟩:=bind_some e1
  obtain⟨v,h1,a,vs,rfl,h2,h3,h4,h5⟩:=E.sl i _ e3
  have sF:aV F (upd F a .bC):=dz h3
  refine⟨upd F a .bC,H,upd F a .bC,_,x,τ1,E.look h1 h2 h3 h5,e2,fun F' H' v' E' s' r'=>?_⟩
  have ha:F' a=some .bC:=s' _ _ aQ
  have hu:aT X.K F' us vs:=aT.mono (sF.trans s') h5
  dsimp only at e1
  by_cases hap:apart us x=true
  ·rw [if_pos hap] at e1
   cases e1
   have gl:=bw.lent h3 E'.g
   exact q (om F' [a]) H' v' (E.grow gl) gl.sF (Rep.drop ha hu hap r')
  ·rw [if_neg hap] at e1
   cases e1
   have gl:=bw.lent h3 E'.g
   have rp:Rep X.K F' (.lst us) (.c a):=⟨a,vs,rfl,ha,hu⟩
   have E1:=E.grow gl
   have E2:aJ X.K Y0 Y9 F' H' σ (τ.set i (.y (.lst us))):=by
    have E3:aJ X.K Y0 Y9 F' H' σ (τ.set i none):=by
     refine⟨⟨E.g.sF.trans (sF.trans s'),E1.g.sH,E'.g.fh,fun b o eb=>?_⟩,by simp [E.len],fun j s ej=>?_,(E.drop (i:=i)).dj⟩
     ·by_cases hb:b=a
      ·exact .inr (by rw [hb];exact h4)
      ·rcases E'.g.nw b o eb with z | z
       ·rw [aE hb] at z
        rcases E.g.nw b o z with y | y
        ·exact .inl y
        ·exact .inr y
       ·exact .inr (E.g.sH.free z)
     ·obtain⟨w,k1,k2⟩:=(E1.drop (i:=i)).sl j s ej
      refine⟨w,k1,?_⟩
      have dS:aV (om F' [a]) F':=vC
      cases s with
      |sh t=>exact Rep.mono dS k2
      |own ts =>
       obtain⟨p,ws,rfl,m2,m3,m4,m5⟩:=k2
       refine⟨p,ws,rfl,m2,?_,m4,aT.mono dS m5⟩
       have hj:i≠j:=fun z=>by
        subst z
        by_cases hl:i<τ.length
        ·rw [zam hl] at ej;cases ej
        ·rw [List.getElem?_eq_none .j] at ej;cases ej
       rw [zal hj] at ej
       have hpa:p≠a:=fun z=>by subst z;exact E.dj i j us ts p hj e3 ej h1 k1
       rw [di (fun m=>hpa (zac.mp m))] at m3
       exact m3
    have:=E3.setSh (i:=i) h1 rp
    rwa [List.set_set] at this
   exact q F' H' v' E2 (sF.trans s') r'
 ·exact⟨Y0,Y9,F,τ,t,τ',E,e1,q⟩
end
section
variable {P:.am}{w:World}{K:.l}{mg:.G}{base:Heap}
end
theorem nv (fg:FG)(ft:FT)(fe:FE):∀(ts:List T) (τ:aD) (acc us:List T),eD fg ft fe ts τ acc=some us->gX fg ft (uy fe) ts τ (acc.map O.val)=some (us.map O.val)
 |[],_,acc,us,h=>by cases h;rfl
 |t::ts,τ,acc,us,h=>by
  unfold eD at h
  obtain⟨τ1,e1,h⟩:=bind_some h
  obtain⟨p,e2,h⟩:=bind_some h
  unfold gX
  rw [e1,zaa,e2,zaa]
  split at h
  ·next hp =>
   obtain⟨q,e3,h⟩:=bind_some h
   rw [if_pos hp,show uy fe p.2=some (.val q.1,q.2) from by unfold uy;rw [e3];rfl,Option.bind_some]
   split at h
   ·next hq =>
    rw [if_pos ⟨hq.1,by rw [zah];exact hq.2⟩]
    have:=nv fg ft fe ts q.2 (acc++[q.1]) us h
    rw [zaH] at this
    exact this
   ·cases h
  ·next hp =>
   rw [if_neg hp]
   split at h
   ·next hq =>
    rw [if_pos hq]
    exact nv fg ft fe ts p.2 acc us h
   ·cases h
theorem CA {no:Nat}{cap:.I}{fi:FA}{fg:FG}{ft:FT}{fe:FE}{τ τ':aD}{us:List T}(h:bF no cap fi fg ft fe τ=some (.lst us,τ')):nA no cap fi fg ft (uy fe) τ=some (.lst (us.map O.val),τ'):=by
 obtain⟨p,e1,h⟩:=bind_some h
 unfold nA
 rw [e1,zaa]
 split at h
 ·next ha =>
  obtain⟨vs,e2,h⟩:=bind_some h
  cases h
  rw [if_pos ha,show gX fg ft (uy fe) p.1 .be []=some (us.map O.val) from nv fg ft fe _ _ [] us e2]
  rfl
 ·cases h
theorem D8 {no:Nat}{cap:.I}{fi:FA}{fg:FG}{ft:FT}{fe:FE}{τ τ':aD}{t:T}(h:bF no cap fi fg ft fe τ=some (t,τ')):∃us,t=.lst us:=by
 obtain⟨p,e1,h⟩:=bind_some h
 split at h
 ·obtain⟨vs,e2,h⟩:=bind_some h
  cases h
  exact⟨_,rfl⟩
 ·cases h
section
variable {X:Cx}
theorem cN {elt tg iter:Expr}{ifs:.az}{scope:Scope}{pos:Pos}{N':.Y}{no:Nat}{cap:.I}{fi:FA}{fg:FG}{ft:FT}{fe:FE}(hx:X.xe=fun _ _=>False)(hc:.bL)(B:eQ X scope)(hN:.cE)
  (hcap:∀(k j:Nat),cap[k]? = some j->∃x,N'[no+k]? = some x/\X.N[j]? = some x/\(x,NameKind.free)∈scope.names) (hi:.dH)
  (hg:∀C cs Y8 Y9 fp pins,SG .z tg fg) (ht:∀C cs Y8 Y9 fp pins,EX .z ifs ft) (he:∀C cs Y8 Y9 fp pins,SE .z elt fe)
  (hs:∀x,foldedSetIterable iter X.env x=pure x:=by intro _;rfl):SE X .aa (bF no cap fi fg ft fe):=fun Y0 Y9=>PE.weak (EW.se (AD hx hc B hN hcap hi hg ht (fun C cs Y8 Y9 fp pins=>SE.seo (he C cs Y8 Y9 fp pins)) hs) Y0 Y9) fun σ H Q hq__=>by
 obtain⟨F,τ,t,τ',E,e1,q⟩:=hq__
 obtain⟨us,rfl⟩:=D8 e1
 refine⟨F,τ,_,τ',E,?_,q⟩
 unfold RH
 rw [CA e1,zaa]
 show some (T.lst (O.trs (us.map O.val)),τ')=_
 rw [uc]
theorem tW {i:Nat}{y:Str}{py spos:Pos}{elt tg iter:Expr}{ifs:.az}{scope:Scope}{pos:Pos}{N':.Y}{no:Nat}{cap:.I}{fi:FA}{fg:FG}{ft:FT}{fe:FE}(hNd:X.N.Nodup)(hiy:X.N[i]? = some y)(hy:.cD)
  (hx:X.xe=fun _ _=>False) (hc:.bL) (B:eQ X scope) (hN:.cE)
  (hcap:∀(k j:Nat),cap[k]? = some j->∃x,N'[no+k]? = some x/\X.N[j]? = some x/\(x,NameKind.free)∈scope.names) (hi:.dH)
  (hg:∀C cs Y8 Y9 fp pins,SG .z tg fg) (ht:∀C cs Y8 Y9 fp pins,EX .z ifs ft) (he:∀C cs Y8 Y9 fp pins,SE .z elt fe)
  (hsw:swapsWith .aa (.Y y py) spos.line X.env=pure true:=by rfl) (hs:∀x,foldedSetIterable iter X.env x=pure x:=by intro _;rfl):
  SS X (.Assign [.Name y py] .aa spos) (fB i no cap fi fg ft fe):=fun Y0 Y9=>PS.weak (Af i hNd hiy hy hx hc B hN hcap hi hg ht (fun C cs Y8 Y9 fp pins=>SE.seo (he C cs Y8 Y9 fp pins)) hsw hs Y0 Y9) fun D σ H hq__=>by
 obtain⟨F,τ,r,E,e1,q⟩:=hq__
 obtain⟨p,e2,e1⟩:=bind_some e1
 split at e1
 ·next ha =>
  obtain⟨us,e3,e1⟩:=bind_some e1
  cases e1
  refine⟨F,τ,.lst (us.map O.val),frzAll cap p.2,E,CA (by unfold bF;rw [e2,Option.bind_some,if_pos ha,e3];rfl),fun F' H' v A E' s' ro nd h0 ap=>?_⟩
  obtain⟨pa,vs,B',rfl,rfl,k1,k2,k3⟩:=ro
  obtain⟨rfl,k4⟩:=cP.plain (rl us) k3
  rw [uc] at k4
  exact q F' H' _ (aJ.putOwn2 E' k1 k2 (h0 pa zad) ap k4) s'
 ·cases e1
end
section
variable {prog:.am}{w:World}{A:Around}{E:.m}{s:Shared}
end
section
variable {X:Cx}
end
section
variable {X:Cx}
def wZ:T->T->Option T
 |a,.non=>some (.bl (!CU a))
 |_,_=>none
theorem G8:lr X (compareOp .IsNot) wZ:=by
 intro pins s σ H x y v u Q I rx ry ⟨F,a,b,t,sm,ra,rb,e,q⟩
 unfold wZ at e
 split at e
 ·cases e;cases rb
  exact JI pins s σ H _ _ v u Q I rx ry ⟨rfl,by rw [vP ra];exact q F H _ .ak rfl⟩
 ·cases e
end
def Ea (f:Str):List Str->List T->Option T
 |n::ns,t::ts=>if f=n then some t else Ea f ns ts
 |_,_=>none
theorem CF {K:.l}{F:Hp}{f:Str}:∀{ns:.Y} {ts:List T} {vs:List V} {t:T},aT K F ts vs->Ea f ns ts=some t->∃v,(ns.zip vs).lookup f=some v/\Rep K F t v
 |[],_,_,_,_,e=>by cases e
 |n::ns,[],_,_,_,e=>by cases e
 |n::ns,t::ts,_,u,r,e=>by
  obtain⟨v,rr,rfl,h1,h2⟩:=r
  unfold Ea at e
  rw [zbP,za0]
  by_cases h:f=n
  ·rw [if_pos h] at e
   cases e
   rw [beq_iff_eq.mpr h]
   exact⟨v,rfl,h1⟩
  ·rw [if_neg h] at e
   rw [beq_eq_false_iff_ne.mpr h]
   exact CF h2 e
theorem sI {f:Str}:∀{ns:.Y} {vs:List V},f∉ns->(ns.zip vs).lookup f=none
 |[],_,_=>.h
 |n::ns,[],_=>.h
 |n::ns,v::vs,h=>by
  rw [zbP,za0,beq_eq_false_iff_ne.mpr (show f≠n from fun z=>h (by rw [z];exact zad))]
  exact sI fun m=>h (zae _ m)
theorem Ag {f:Str}{y:V}:∀{ns:.Y} {vs:List V},f∉ns->vs.length=ns.length->ku f y (ns.zip vs)=(ns++[f]).zip (vs++[y])
 |[],[],_,_=>rfl
 |[],_::_,_,h=>by cases h
 |_::_,[],_,h=>by cases h
 |n::ns,v::vs,h,hl=>by
  rw [List.zip_cons_cons,show ku f y ((n,v)::ns.zip vs)=(if n=f then (n,y)::ns.zip vs else (n,v)::ku f y (ns.zip vs)) from rfl,if_neg (show ¬ n=f from fun z=>h (by rw [z];exact List.mem_cons_self)),Ag (fun m=>h (.I m)) (by simpa using hl)]
  rfl
section
variable {X:Cx}{e:Expr}{es:.az}{pos:Pos}
def cS (Cs:.aj)(f:Str)(fe:FE):FE:=fun τ=>(fe τ).bind fun p=>match p.1 with
 | .obj C ns ts=>if C∈Cs then (Ea f ns ts).bind fun t=>some (t,p.2) else none
 |_=>none
theorem bU {Cs:.aj}{f:Str}{fe:FE}(hC:∀C∈Cs,eC X.K C/\bo X.K C f)(he:SE X e fe)(hb:attributeBase e f X.env (.Q e)=eval e X.env:=by rfl):SE X (.Attribute e f pos) (cS Cs f fe):=
 fun Y0 Y9=>PE.weak (Mg .fy hb) fun σ H Q h=>by
  obtain⟨F,τ,t,τ',E,e1,q⟩:=h
  obtain⟨⟨x,τ1⟩,e2,e1⟩:=bind_some e1
  dsimp only at e1
  split at e1
  ·next C ns ts =>
   split at e1
   ·next hm =>
    obtain⟨u,e3,e1⟩:=bind_some e1
    cases e1
    refine⟨F,τ,_,_,E,e2,fun F1 H1 v E1 s1 r1=>?_⟩
    obtain⟨a,dx,vs,rfl,h1,h2,h3⟩:=r1
    obtain⟨w,l1,l2⟩:=CF h3 e3
    exact⟨a,C,dx,_,w,rfl,E1.g.fh _ _ h1,(hC C hm).1,(hC C hm).2,l1,q F1 H1 w E1 s1 l2⟩
   ·cases e1
  ·cases e1
end
structure cV (P:.am)(w:World)(K:.l)(mg:.G)(base:Heap)(k:Nat)(C:Addr)(m:Str)(n:Nat)(d:.R):Prop where
 cl:eC K C
 ex:∃f fd ps,iz P w K mg base ur k f fd ps (spT K n d)/\Binds K fd ps []/\Meth K C m f/\ps.length=n
section
variable {P:.am}{w:World}{K:.l}{mg:.G}{base:Heap}{j k n:Nat}{C:Addr}{m:Str}
theorem cV.mono {d:.R}(D:cV P w K mg base j C m n d)(h:j≤k):cV P w K mg base k C m n d:=by
 obtain⟨f,fd,ps,F,r⟩:=D.ex
 exact⟨D.cl,f,fd,ps,F.mono h,r⟩
theorem dm {x qual:Str}{st:Stmt}{f:Addr}{fd:.e5}{N ps:.Y}{fb:FS}(F:.du)(S:aK N ps (ax st))(hb:Binds K fd ps [])(cl:eC K C)(hm:Meth K C m f)
  (h:∀(cdv:Value) (A:Around) (outer:.e4) (s:Shared) (H:Hp) (E:XK),eN k .aK->AV (rS ur P w K mg base N qual (ax st) f cdv A outer s H E).nox (ff st) fb):
  cV P w K mg base (k+1) C m ps.length (cg N.length ps.length fb):=by
 refine⟨cl,f,fd,ps,F.ok S (fun vs H Q E z=>z.1) .cG,hb,hm,rfl⟩
 obtain⟨hl,F1,ts,t,sm,r,e,q⟩:=z
 unfold cg at e
 split at e
 ·next hn =>
  obtain⟨r',e1,e⟩:=bind_some e
  refine⟨_,h cdv A outer s H E hr F1 H,F1,_,r',?_,e1,?_⟩
  ·have:=jK (N:=N) sm r
   rw [hn] at this
   exact this
  ·cases r' with
   |rt u=>cases e;exact fun F' H' v g r'=>q F' H' v g r'
   |nx τ=>cases e;exact fun F' H' σ' E' s'=>q F' H' .non E'.g rfl
   |bk τ=>cases e
   |ct τ=>cases e
 ·cases e
end
section
variable {X:Cx}{o e:Expr}{es:.az}{pos apos:Pos}{g:FA}{fo:FE}{k n:Nat}{m:Str}
def ou (C:Addr):List .aN->Option (List T->Option T)
 |[]=>none
 |a::r=>if C=a.1 then some a.2 else ou C r
theorem vJ {C:Addr}{d:.R}:∀{l:List .aN},ou C l=some d->(C,d)∈l
 |[],h=>by cases h
 |a::r,h=>by
  unfold ou at h
  split at h
  ·next e=>cases h;subst e;exact zad
  ·exact zae _ (vJ h)
def dP (alts:List .aN)(m:Str)(fo:FE)(g:FA):FE:=fun τ=>(fo τ).bind fun p=>match p.1 with
 | .obj C ns ts=>if m∈ns then none else (ou C alts).bind fun d=>(g p.2).bind fun q=>(d (.obj C ns ts::q.1)).bind fun t=>some (t,q.2)
 |_=>none
theorem vV {alts:List .aN}{Y0 Y9:Hp}{σ:L2.St}{H:Hp}{Q:VK}(h:tE X.K Y0 Y9 (dP alts m fo g) σ H Q)(hl:∀τ ts τ',g τ=some (ts,τ')->ts.length+1=n):
  ∃C d,(C,d)∈alts/\HW C m (spT X.K n d) [] E0 (tE X.K Y0 Y9 fo) (tA X.K Y0 Y9 g) σ H Q:=by
 obtain⟨F,τ,t,τ',E,e1,q⟩:=h
 obtain⟨⟨x,τ1⟩,e2,e1⟩:=bind_some e1
 dsimp only at e1
 split at e1
 ·next C ns ts =>
  split at e1
  ·cases e1
  ·next hm =>
   obtain⟨d,e3,e1⟩:=bind_some e1
   obtain⟨⟨us,τ2⟩,e4,e1⟩:=bind_some e1
   obtain⟨u,e5,e1⟩:=bind_some e1
   cases e1
   refine⟨C,d,vJ e3,F,τ,_,τ1,E,e2,fun F1 H1 v E1 s1 r1=>?_⟩
   obtain⟨a,dx,vs,rfl,h1,h2,h3⟩:=id r1
   refine⟨a,dx,_,rfl,E1.g.fh _ _ h1,sI hm,F1,τ1,us,_,E1,e4,fun F2 H2 ws E2 s2 r2=>?_⟩
   refine⟨by rw [zax,zaj,r2.length];exact hl _ _ _ e4,F2,.obj C ns ts::us,_,E2.g.fh,⟨_,_,rfl,Rep.mono s2 r1,by rw [zax];exact r2⟩,e5,fun F3 H3 v3 g3 r3=>?_⟩
   exact q F3 H3 v3 (E2.grow g3) ((s1.trans s2).trans g3.sF) r3
 ·cases e1
theorem Dj {pl:Sem Bool}{alts:List .aN}(hD:∀a∈alts,cV X.prog X.w X.K X.mg X.base k a.1 m n a.2)(hr:eN k X.A)(he:SE X o fo)(ha:SA X (e::es) g)(hl:∀τ ts τ',g τ=some (ts,τ')->ts.length+1=n)
  (hst:starEach (e::es) X.env=(.i e)::starEach es X.env:=by rfl) (hpl:(backTo pos .a6).any (·.1)=false:=by rfl)
  (ht:eval .fx X.env=(do
   let ov <- eval o X.env
   standAt apos.atName
   let (f,first) <- holding [ov] (getMethod ov m pl)
   callWith pos f first (backTo pos (starEach (e::es) X.env)) (backToKw pos .cL)):=by rfl):
  SE X .fx (dP alts m fo g):=by
 intro Y0 Y9 pins s σ H Q I h
 obtain⟨C,d,hm,h'⟩:=vV h hl
 have D:=hD _ hm
 obtain⟨f,fd,ps,Fk,hb,hme,hn⟩:=D.ex
 exact JR (E:=E0) (CX:=ur) .fy D.cl hme Fk hr hb .nil Ad .b3 hst hpl ht pins s σ H Q I h'
theorem mm {pl:Sem Bool}{alts:List .aN}(hD:∀a∈alts,cV X.prog X.w X.K X.mg X.base k a.1 m 1 a.2)(hr:eN k X.A)(he:SE X o fo)
  (ht:eval (.Call (.S m) [] [] pos) X.env=(do
   let ov <- eval o X.env
   standAt apos.atName
   let (f,first) <- holding [ov] (getMethod ov m pl)
   callWith pos f first (backTo pos (starEach [] X.env)) (backToKw pos .cL)):=by rfl):
  SE X (.Call (.S m) [] [] pos) (dP alts m fo au):=by
 intro Y0 Y9 pins s σ H Q I h
 obtain⟨C,d,hm,h'⟩:=vV (n:=1) h (fun τ ts τ' e=>by cases e;rfl)
 have D:=hD _ hm
 obtain⟨f,fd,ps,Fk,hb,hme,hn⟩:=D.ex
 refine Hn (E:=E0) (CX:=ur) .fy D.cl hme Fk hr hb .nil Ad ht pins s σ H Q I ?_
 obtain⟨F,τ,t,τ',E,e1,q⟩:=h'
 refine⟨F,τ,t,τ',E,e1,fun F1 H1 v E1 s1 r1=>?_⟩
 obtain⟨a,dx,fs,h1,h2,h3,F2,τ2,us,τ3,E2,e2,q2⟩:=q F1 H1 v E1 s1 r1
 cases e2
 exact⟨a,dx,fs,h1,h2,h3,q2 F2 H1 [] E2 .en rfl⟩
end
abbrev rh:=List Str×List T
def Sq (K:.l)(C:Addr)(n:Nat)(d:.fa):Sp:=fun vs H Q _=>vs.length=n+1/\∃F x dx ws ts r,vs=.ref x::ws/\H x=some (.ins C dx [])/\F x=none/\aV F H/\aT K F ts ws/\d ts=some r /\
 ∀F' H' us,bw F (om H [x]) F' H'->H' x=some (.ah (r.1.zip us))->F' x=none->us.length=r.1.length->aT K F' r.2 us->Q .non H'
structure gx (P:.am)(w:World)(K:.l)(mg:.G)(base:Heap)(k:Nat)(x:Str)(C:Addr)(n:Nat)(d:.fa):Prop where
 ex:∃j f fd ps,k=j+1/\Mk K C f/\iz P w K mg base ur j f fd ps (Sq K C n d)/\Binds K fd ps []/\mg x=some (.c C)/\ps.length=n+1
theorem gx.mono {P:.am}{w:World}{K:.l}{mg:.G}{base:Heap}{j k n:Nat}{x:Str}{C:Addr}{d:.fa}(D:gx P w K mg base j x C n d)(h:j≤k):gx P w K mg base k x C n d:=by
 obtain⟨i,f,fd,ps,hj,M,F,r⟩:=D.ex
 exact⟨k-1,f,fd,ps,.e,M,F.mono .e,r⟩
section
variable {X:Cx}{e:Expr}{es:.az}{pos:Pos}{g:FA}
def hX (C:Addr)(d:.fa)(g:FA):FE:=fun τ=>(g τ).bind fun p=>(d p.1).bind fun r=>some (.obj C r.1 r.2,p.2)
theorem gn {k n:Nat}{x:Str}{p:Pos}{C:Addr}{d:.fa}(D:gx X.prog X.w X.K X.mg X.base k x C n d)(hr:eN k X.A)(hg:Gl X x)(ha:SA X (e::es) g)(hl:∀τ ts τ',g τ=some (ts,τ')->ts.length=n)(hdb:.L=false:=by decide)
  (he:starEach (e::es) X.env=(.i e)::starEach es X.env:=by rfl) (hpl:(backTo pos .a6).any (·.1)=false:=by rfl):SE X .aV (hX C d g):=by
 obtain⟨j,f,fd,ps,hj,M,Fk,hb,hm,hn⟩:=D.ex
 subst hj
 intro Y0 Y9
 refine PE.weak (JQ (E:=E0) (CX:=ur) M Fk hr hg hm hb .nil Ad .b3 hdb he hpl) fun σ H Q h=>?_
 obtain⟨F,τ,t,τ',E,e1,q⟩:=h
 obtain⟨⟨ts,τ1⟩,e2,e1⟩:=bind_some e1
 obtain⟨r,e3,e1⟩:=bind_some e1
 cases e1
 refine⟨F,τ,ts,_,E,e2,fun F1 H1 vs E1 s1 r1=>fun a dx na ndx ne=>?_⟩
 have fa:F1 a=none:=E1.g.fh.free na
 have fd':F1 dx=none:=E1.g.fh.free ndx
 have sm:aV F1 (.M H1 a):=fun b o z=>by
  rw [aE (bx z fa),aE (bx z fd')]
  exact E1.g.fh b o z
 have sm1:aV H1 (.M H1 a):=fun b o z=>by
  rw [aE (bx z na),aE (bx z ndx)]
  exact z
 refine⟨by rw [zax,zaj,r1.length,hl _ _ _ e2],F1,a,dx,vs,ts,r,by rw [zax],aQ,fa,sm,r1,e3,fun F' H' us gr hx fx hlu ru=>⟨rfl,?_⟩⟩
 have sF:aV F' (upd F' a (.ah (r.1.zip us))):=dz fx
 have g2:bw F1 H1 (upd F' a (.ah (r.1.zip us))) H':=by
  refine⟨gr.sF.trans sF,fun b o z=>gr.sH b o ?_,fun b o z=>?_,fun b o z=>?_⟩
  ·rw [di (fun m=>by rw [zac.mp m,na] at z;cases z)]
   exact sm1 b o z
  ·by_cases hb:b=a
   ·rw [hb,aQ] at z;cases z;rw [hb];exact hx
   ·rw [aE hb] at z;exact gr.fh b o z
  ·by_cases hb:b=a
   ·exact .inr (by rw [hb];exact na)
   ·rw [aE hb] at z
    rcases gr.nw b o z with y | y
    ·exact .inl y
    ·rw [di (fun m=>hb (zac.mp m))] at y
     exact .inr (sm1.free y)
 exact q _ H' (.c a) (E1.grow g2) (s1.trans g2.sF) ⟨a,dx,us,rfl,aQ,hlu,aT.mono sF ru⟩
end
abbrev FI:=aD->List Str->List T->Option rh
def Sx (K:.l)(C x:Addr)(Y0 Y9:Hp)(f:FI):TS:=fun D σ H=>∃F τ ns us vs dx r,aJ K Y0 Y9 F H σ τ/\bL τ=true/\τ[0]? = some (.y (.ptr x))/\H x=some (.ah (ns.zip vs))/\F x=none/\Y9 x=none/\vs.length=ns.length/\ns.length<1000/\aT K F us vs/\f τ ns us=some r /\
 ∀F' H' σ' us',bw Y0 Y9 F' H'->H' x=some (.ah (r.1.zip us'))->F' x=none->us'.length=r.1.length->aT K F' r.2 us'->D.nx σ' H'
def M9 (X:Cx)(C:Addr)(ss:.bG)(f:Addr->FI):Prop:=∀x Y0 Y9,mK X ss (Sx X.K C x Y0 Y9 (f x))
section
variable {X:Cx}{C:Addr}{e:Expr}{rest:.bG}{pos:Pos}
def Bq:Addr->FI:=fun _ _ ns us=>some (ns,us)
theorem mI:M9 X C [] Bq:=fun x Y0 Y9=>mK.weak qU fun D σ H h=>by
 obtain⟨F,τ,ns,us,vs,dx,r,E,ha,h0,hx,fx,h0x,hl,hk,ru,e1,q⟩:=h
 cases e1
 exact q F H σ vs E.g hx fx hl ru
def lg (f:Str)(fe:FE)(fr:Addr->FI):Addr->FI:=fun x τ ns us=>(fe τ).bind fun p=>if bL p.2=true/\¬ f∈ns/\ns.length<999 then match (p.2[0]? : Option (Option Sl)) with
 |some (.y (.ptr y))=>if y=x then fr x p.2 (ns++[f]) (us++[p.1]) else none
 |_=>none else none
theorem eB {f:Str}{fe:FE}{fr:Addr->FI}{y:Str}{p1 p2:Pos}(hc:eC X.K C)(hn:bo X.K C f)(hy:PE X (.Name y p1) (yu 0))(he:SE X e fe)(hr:M9 X C rest fr)
  (hs:swapsWith e (some (.Attribute (.Name y p1) f p2)) pos.line X.env=pure false:=by rfl):M9 X C (.Assign [.Attribute (.Name y p1) f p2] e pos::rest) (lg f fe fr):=fun x Y0 Y9=>mK.weak (jQ (Mx hy he.any hs) (hr x Y0 Y9)) fun D σ H h=>by
 obtain⟨F,τ,ns,us,vs,dx,r,E,ha,h0,hx,fx,h0x,hl,hk,ru,e1,q⟩:=h
 obtain⟨⟨t,τ1⟩,e2,e1⟩:=bind_some e1
 dsimp only at e1
 split at e1
 ·next hc1 =>
  split at e1
  ·next y1 hp1 =>
   split at e1
   ·next hyx =>
    subst hyx
    refine⟨F,H,F,τ,t,τ1,E.rebase ha E.g.fh,e2,fun F1 H1 w E1 s1 r1=>?_⟩
    have hx1:=E1.g.sH _ _ hx
    have fx1:F1 y1=none:=by
     cases eF:F1 y1 with
     |none=>rfl
     |some o =>
      rcases E1.g.nw _ o eF with z | z
      ·rw [fx] at z;cases z
      ·rw [hx] at z;cases z
    obtain⟨v0,k1,k2⟩:=E.sl 0 _ h0
    cases (show v0=.ref y1 from k2)
    refine⟨_,k1,y1,C,dx,_,rfl,hx1,hc,hn,by rw [List.length_zip];omega,?_⟩
    rw [Ag hc1.2.1 hl]
    have E2:aJ X.K Y0 Y9 F1 (upd H1 y1 (.ah ((ns++[f]).zip (vs++[w])))) σ τ1:=by
     refine E1.to hc1.1 .en ⟨E.g.sF.trans E1.g.sF,fun b o z=>?_,fun b o z=>?_,fun b o z=>?_⟩
     ·rw [aE (fun y=>by rw [y,h0x] at z;cases z)]
      exact E1.g.sH _ _ (E.g.sH _ _ z)
     ·rw [aE (fun y=>by rw [y,fx1] at z;cases z)]
      exact E1.g.fh _ _ z
     ·rcases E1.g.nw b o z with y | y
      ·exact E.g.nw b o y
      ·exact .inr (E.g.sH.free y)
    refine⟨F1,τ1,ns++[f],us++[t],vs++[w],dx,r,E2,hc1.1,hp1,aQ,fx1,h0x,by simp [hl],by rw [List.length_append];simp only [List.length_cons,List.length_nil];omega,(aT.mono E1.g.sF ru).append (.one r1),e1,q⟩
   ·cases e1
  ·cases e1
 ·cases e1
def Ek (t:FS)(fr:Addr->FI):Addr->FI:=fun x τ ns us=>(t τ).bind fun r=>match r with
 | .nx τ1=>if bL τ1=true then match (τ1[0]? : Option (Option Sl)) with
  |some (.y (.ptr y))=>if y=x then fr x τ1 ns us else none
  |_=>none else none
 |_=>none
theorem yo {st:Stmt}{t:FS}{fr:Addr->FI}(hst:SS X st t)(hr:M9 X C rest fr):M9 X C (st::rest) (Ek t fr):=fun x Y0 Y9=>mK.weak (jQ hst.any (hr x Y0 Y9)) fun D σ H h=>by
 obtain⟨F,τ,ns,us,vs,dx,r,E,ha,h0,hx,fx,h0x,hl,hk,ru,e1,q⟩:=h
 obtain⟨r1,e2,e1⟩:=bind_some e1
 refine⟨F,H,F,τ,r1,E.rebase ha E.g.fh,e2,?_⟩
 cases r1 with
 |nx τ1 =>
  dsimp only at e1
  split at e1
  ·next hs =>
   split at e1
   ·next y1 hp1 =>
    split at e1
    ·next hyx =>
     subst hyx
     refine fun F1 H1 σ1 E1 s1=>?_
     have hx1:=E1.g.sH _ _ hx
     have fx1:F1 y1=none:=by
      cases eF:F1 y1 with
      |none=>rfl
      |some o =>
       rcases E1.g.nw _ o eF with z | z
       ·rw [fx] at z;cases z
       ·rw [hx] at z;cases z
     exact⟨F1,τ1,ns,us,vs,dx,r,E1.back hs E.g,hs,hp1,hx1,fx1,h0x,hl,hk,aT.mono E1.g.sF ru,e1,q⟩
    ·cases e1
   ·cases e1
  ·cases e1
 |rt t=>cases e1
 |bk t=>cases e1
 |ct t=>cases e1
end
def IJ (m n:Nat)(fb:Addr->FI)(ts:List T)(r:rh):Prop:=ts.length=n/\∀x:Addr,fb x ('0' (.ptr x)::(ts.map .fk++List.replicate (m-(n+1)) none)) [] []=some r
open Classical in
def dI (m n:Nat)(fb:Addr->FI):List T->Option rh:=fun ts=>if h:∃r,IJ m n fb ts r then some h.choose else none
theorem vA {m n:Nat}{fb:Addr->FI}{ts:List T}{r:rh}(h:IJ m n fb ts r):dI m n fb ts=some r:=by
 unfold dI
 have hh:∃r,IJ m n fb ts r:=⟨r,h⟩
 rw [dif_pos hh]
 have h1:=hh.choose_spec.2 0
 rw [h.2 0] at h1
 exact h1.symm
theorem Lr {m n:Nat}{fb:Addr->FI}{ts:List T}{r:rh}(h:dI m n fb ts=some r):IJ m n fb ts r:=by
 unfold dI at h
 split at h
 ·next hh=>cases h;exact hh.choose_spec
 ·cases h
theorem pB:∀(ts:List T) (j:Nat),bL (ts.map .fk++List.replicate j none)=true
 |[],0=>rfl
 |[],j+1=>by rw [zaF];exact pB [] j
 |t::ts,j=>pB ts j
theorem mG {P:.am}{w:World}{K:.l}{mg:.G}{base:Heap}{k n:Nat}{x cx:Str}{C:Addr}{qual:Str}{st:Stmt}{f:Addr}{fd:.e5}{N ps:.Y}{fb:Addr->FI}(F:.du)(S:aK N ps (ax st))(hb:Binds K fd ps [])(M:Mk K C f)(hm:.e6)(hn:ps.length=n+1)
  (h:∀(cdv:Value) (A:Around) (outer:.e4) (s:Shared) (H:Hp) (E:XK),eN k .aK->M9 (rS ur P w K mg base N qual (ax st) f cdv A outer s H E).nox C (ff st) fb):
  gx P w K mg base (k+2) cx C n (dI N.length n fb):=by
 refine⟨k+1,f,fd,ps,rfl,M,F.ok S (fun vs H Q E z=>by rw [hn];exact z.1) .cG,hb,hm,hn⟩
 obtain⟨hl,F1,a,dx,ws,ts,r,rfl,hx,fx,sm,rw1,e,q⟩:=z
 obtain⟨hlen,hf⟩:=Lr e
 refine⟨_,h cdv A outer s H E hr a F1 (om H [a]),?_⟩
 have r1:aT K F1 (.ptr a::ts) (.ref a::ws):=⟨_,_,rfl,rfl,rw1⟩
 have E0:=jK (N:=N) sm r1
 have hsh:bL ((T.ptr a::ts).map .fk++List.replicate (N.length-(T.ptr a::ts).length) none)=true:=pB _ _
 have g0:bw F1 (om H [a]) F1 H:=⟨aV.refl _,vC,sm,fun _ _ z=>.inl z⟩
 have E1:=E0.to hsh .en g0
 refine⟨F1,_,[],[],[],dx,r,E1,hsh,rfl,hx,fx,oo zad,rfl,.f,rfl,?_,fun F' H' σ' us' g' h1 h2 h3 h4=>q F' H' us' g' h1 h2 h3 h4⟩
 have:=hf a
 rw [<- hlen] at this
 exact this
structure iA (K:.l)(Ct C:Addr)(b:Bool):Prop where
 cl:eC K C
 ha:PySem.W.findIn K (.c C) "__class__" = some (some .cQ)
 hn:PySem.W.specialIn K .cQ "__get__" = some (some (.builtin "getset_descriptor.__get__"))
 htk:PySem.W.takesIn K .cQ=some true
 hm:PySem.W.mroIn K C (.type "object")=some true
 kit:PySem.W.kitOne K (.c C) (.c Ct)=some b
def findB (C:Addr):List .db->Option Bool
 |[]=>none
 |a::r=>if C=a.1 then some a.2 else findB C r
theorem mF {C:Addr}{d:Bool}:∀{l:List .db},findB C l=some d->(C,d)∈l
 |[],h=>by cases h
 |a::r,h=>by
  unfold findB at h
  split at h
  ·next e=>cases h;subst e;exact zad
  ·exact zae _ (mF h)
section
variable {X:Cx}{e:Expr}{pos:Pos}
theorem DV {Ct:Addr}:gb X .ft (fun xs H Q=>∃a C dx fs b,xs=[.ref a,.ref Ct]/\H a=some (.ah fs)/\iA X.K Ct C b/\Q (.bl b) H):=by
 intro pins s σ H xs us Q I r h
 obtain⟨a,C,dx,fs,b,rfl,ea,ok,q⟩:=h
 obtain⟨u1,u2,rfl,ra,rb⟩:=Vals.two r
 cases (show u2=Value.ref Ct from rb)
 exact Eo I ra (.ins ea ok.cl ok.ha ok.hn ok.htk ok.hm) ok.kit fun tk=>⟨.bl b,H,I.tok tk,rfl,q⟩
def fA (tbl:List .db)(fe:FE):FE:=fun τ=>(fe τ).bind fun p=>match p.1 with
 | .obj C _ _=>(findB C tbl).bind fun b=>some (.bl b,p.2)
 |_=>none
theorem jf {Ct:Addr}{x:Str}{p p':Pos}{fe:FE}{tbl:List .db}(ht:∀a∈tbl,iA X.K Ct a.1 a.2)(hg:Gl X "isinstance")(hm:X.mg "isinstance" = none)(hgx:Gl X x)(hmx:X.mg x=some (.c Ct))(he:SE X e fe)
  (hs:starEach [e,.Name x p] X.env=(.i e)::starEach [.Name x p] X.env:=by rfl) (hs2:starEach [.Name x p] X.env=(.i (.Name x p))::starEach [] X.env:=by rfl) (hpl:(backTo pos (starEach [.Name x p] X.env)).any (·.1)=false:=by rfl) (hdx:.L=false:=by decide):
  SE X (.Call (.Name "isinstance" p') [e,.Name x p] [] pos) (fA tbl fe):=fun Y0 Y9 =>
 PE.weak (Ae DV hg hm (show bootBuiltins "isinstance" = some .ft from rfl) (kr .fy (kr (oO (v:=.ref Ct) hgx hmx rfl hdx) tj hs2) hs) .f .f hs hpl) fun σ H Q h=>by
  obtain⟨F,τ,t,τ',E,e1,q⟩:=h
  obtain⟨⟨y,τ1⟩,e2,e1⟩:=bind_some e1
  dsimp only at e1
  split at e1
  ·next C ns ts =>
   obtain⟨b,e3,e1⟩:=bind_some e1
   cases e1
   refine⟨F,τ,_,_,E,e2,fun F1 H1 v E1 s1 r1=>?_⟩
   obtain⟨a,dx,vs,rfl,h1,h2,h3⟩:=r1
   exact⟨a,C,dx,_,b,rfl,E1.g.fh _ _ h1,ht _ (mF e3),q F1 H1 _ E1 s1 rfl⟩
  ·cases e1
end
section
variable {X:Cx}{e:Expr}{pos:Pos}{f:FE}
end
section
variable {K:.l}{Y0 Y9 F H F' H':Hp}{σ σ':L2.St}{τ τ':aD}{x:Nat}{p:Addr}{tss:List (List T)}{A:.aj}
end
def mY (x:Nat)(p:Addr)(τ:aD):Bool:=match τ[x]? with
 |some (.y (.ptr q))=>Nat.beq q p
 |_=>false
theorem jN {x:Nat}{p:Addr}{τ:aD}(h:mY x p τ=true):τ[x]? = some (.y (.ptr p)):=by
 unfold mY at h
 split at h
 ·next q e=>rw [e,Nat.eq_of_beq_eq_true h]
 ·cases h
theorem SG.any {X:Cx}{tg:Expr}{g:FG}(h:SG X tg g):PG X tg (fun v σ H Q=>∃Y0 Y9,tG X.K Y0 Y9 g v σ H Q):=fun pins s σ H v u Q I r ⟨Y0,Y9,q⟩=>h Y0 Y9 pins s σ H v u Q I r q
section
variable {X:Cx}{e:Expr}{pos:Pos}{x:Nat}
end
section
variable {K:.l}{Y0 Y9 F H F' H':Hp}{σ σ':L2.St}{τ τ':aD}{x:Nat}{p:Addr}{tss:List (List T)}{A:.aj}
end
section
variable {X:Cx}{e:Expr}{pos:Pos}{x:Nat}
end
section
variable {X:Cx}{e:Expr}{pos:Pos}
end
section
variable {X:Cx}{e:Expr}{pos:Pos}
end
section
variable {X:Cx}{e:Expr}{pos:Pos}{x:Nat}
end
section
variable {X:Cx}{i j:Nat}
end
section
variable {X:Cx}
end
section
variable {X:Cx}{a b c:Expr}{fa fb fc:FE}{pos:Pos}
def gZ (g g':.cP)(fa fb fc:FE):FE:=fun τ=>(fa τ).bind fun p=>(fb p.2).bind fun q=>(g p.1 q.1).bind fun z=>match z with
 | .bl true=>(fc q.2).bind fun r=>(g' q.1 r.1).bind fun t=>some (t,r.2)
 | .bl false=>some (.bl false,q.2)
 |_=>none
theorem rL {g g':.cP}{K:.l}{Y0 Y9:Hp}{σ:L2.St}{H:Hp}{Q:VK}(h:tE K Y0 Y9 (gZ g g' fa fb fc) σ H Q):B2 (MG K g) (MG K g') (tE K Y0 Y9 fa) (tE K Y0 Y9 fb) (tE K Y0 Y9 fc) σ H Q:=by
 obtain⟨F,τ,t,τ',E,e1,q⟩:=h
 obtain⟨⟨x,τ1⟩,e2,e1⟩:=bind_some e1
 obtain⟨⟨y,τ2⟩,e3,e1⟩:=bind_some e1
 obtain⟨z,e4,e1⟩:=bind_some e1
 refine⟨F,τ,x,τ1,E,e2,fun F1 H1 v1 E1 s1 r1=>⟨F1,τ1,y,τ2,E1,e3,fun F2 H2 v2 E2 s2 r2=>⟨F2,x,y,z,E2.g.fh,r1.mono s2,r2,e4,fun F3 H3 v3 g3 r3=>?_⟩⟩⟩
 dsimp only at e1
 split at e1
 ·obtain⟨⟨w,τ3⟩,e5,e1⟩:=bind_some e1
  obtain⟨t',e6,e1⟩:=bind_some e1
  cases e1
  refine⟨true,r3,?_⟩
  rw [if_pos rfl]
  exact⟨F3,τ2,w,_,E2.grow g3,e5,fun F4 H4 v4 E4 s4 r4=>⟨F4,y,w,_,E4.g.fh,(r2.mono g3.sF).mono s4,r4,e6,fun F5 H5 v5 g5 r5=>q F5 H5 v5 (E4.grow g5) (((s1.trans s2).trans g3.sF).trans (s4.trans g5.sF)) r5⟩⟩
 ·cases e1
  refine⟨false,r3,?_⟩
  rw [if_neg .f]
  exact q F3 H3 _ (E2.grow g3) ((s1.trans s2).trans g3.sF) rfl
 ·cases e1
theorem Ax {op op':CmpOp}{g g':.cP}(ho:lr X (.X op) g)(ho':lr X (.X op') g')(ha:SE X a fa)(hb:SE X b fb)(hc:SE X c fc)(hm:lastMarks [op,op'] [b,c]=false:=by with_unfolding_all rfl):SE X .e1 (gZ g g' fa fb fc):=
 fun Y0 Y9=>PE.weak (Hj ho ho' .b3 .dL (hc Y0 Y9) hm) fun _ _ _=>rL
theorem HN {op op':CmpOp}{g g':.cP}(ho:lr X (.X op) g)(ho':lr X (.X op') g')(ha:SE X a fa)(hb:SE X b fb)(hc:SE X c fc)(hm:lastMarks [op,op'] [b,c]=false:=by with_unfolding_all rfl):ST X .e1 (cw (gZ g g' fa fb fc)):=
 fun Y0 Y9=>PT.weak (Hy ho ho' .b3 .dL (hc Y0 Y9) hm) fun σ H Q hq__=>by
  obtain⟨F,τ,k,τ',E,e1,q⟩:=hq__
  obtain⟨⟨x,τ1⟩,e2,e1⟩:=bind_some e1
  dsimp only at e1
  split at e1
  ·cases e1
   refine rL (Q:=fun x H'=>∃k,x=V.bl k/\Q k H') ⟨F,τ,_,_,E,e2,fun F' H' v E' s' r'=>?_⟩
   exact⟨k,r',q F' H' E' s'⟩
  ·cases e1
end
section
variable {K:.l}{Y0 Y9 F H F' H':Hp}{σ σ':L2.St}{τ τ':aD}{A:.aj}
end
section
variable {X:Cx}{r t x:Nat}{rn tn xn:Str}{p1 p2 p3 p4 p5 p6 pos:Pos}
end
section
variable {K:.l}{Y0 Y9 F H F' H':Hp}{σ σ':L2.St}{τ τ':aD}{A:.aj}{x:Nat}{o:O}{v:V}
end
section
variable {X:Cx}{r t x:Nat}{rn tn xn:Str}{p1 p2 p3 p4 p5 p6 pos q1 q2 q3 q4 q5 q6 pos':Pos}
end
section
variable {K:.l}{Y0 Y9 F H F' H':Hp}{σ σ':L2.St}{τ τ':aD}{x:Nat}{p:Addr}{os:List O}{A:.aj}
end
section
variable {X:Cx}{e:Expr}{pos:Pos}{x:Nat}
end
section
variable {X:Cx}{e:Expr}{pos:Pos}
end
section
variable {X:Cx}{e:Expr}{pos:Pos}
end
section
variable {P:.am}{w:World}{K:.l}{mg:.G}{base:Heap}{j k n:Nat}{C:Addr}{m:Str}
end
section
variable {X:Cx}{o e:Expr}{pos apos:Pos}{fo:FE}{k n:Nat}{m:Str}
end
section
variable {X:Cx}{x y:Nat}{e:Expr}{pos:Pos}
end
section
variable {K:.l}{Y0 Y9 F H F' H':Hp}{σ σ':L2.St}{τ τ':aD}{A:.aj}{o:O}{v:V}
end
section
variable {X:Cx}{x y:Nat}{e:Expr}{pos:Pos}
end
section
variable {X:Cx}{es:.az}{pos:Pos}
def QJ (K:.l)(n:Nat)(t:Im):TG:=fun v σ H Q=>∃a xs,v=.ref a/\gR K H a xs/\xs.length=n/\t xs σ H Q
theorem Mq {k:Nat}{t:Im}{n:Nat}(hc:.bL)(h:M8 X es t)
  (hn:(assignEach es X.env).length=n:=by rfl) (hst:(assignEach es X.env).findIdx? (·.1)=none:=by rfl):PG X (.Tuple es k pos) (QJ X.K n t):=by
 intro pins s σ H v u Q I r hw
 obtain⟨a,xs,e1,hq,hl,hw⟩:=hw
 subst e1
 cases r
 obtain⟨its,rv,ht,hz⟩:=I.list hq
 rw [assign_Tuple]
 refine wpAny_bind (wpAny_standAt ?_)
 unfold unpack
 rw [hst,show (assignEach es X.env).length=its.toArray.size by simp [hn,<- hl,rv.length]]
 refine wpAny_bind (wpAny_holding (PySem.W.kun_itemsOf .cX ht.isList fun h' hx=>?_))
 have I1:Inv X pins σ H { s with heap:=h' }:=I.kept (t':=s.toks) fun b o e=>hx b o (zaq .aF) e
 exact h pins _ σ H xs _ Q I1 (by simpa using rv) hw
def KP (gs:.bF):FG:=fun t τ=>match t with
 | .lst ts=>gs ts τ
 |_=>none
theorem ML {gs:.bF}{k:Nat}{n:Nat}(hc:.bL)(h:Ld X es gs)(hl:∀ts τ τ',gs ts τ=some τ'->ts.length=n)
  (hn:(assignEach es X.env).length=n:=by rfl) (hst:(assignEach es X.env).findIdx? (·.1)=none:=by rfl):SG X (.Tuple es k pos) (KP gs):=
 fun Y0 Y9 pins s σ H v u Q I r h'=>Mq hc .c3 hn hst pins s σ H v u Q I r (by
  obtain⟨F,τ,t,τ',E,rt,e1,q⟩:=h'
  unfold KP at e1
  split at e1
  ·next ts =>
   obtain⟨p,xs,rfl,h1,h2⟩:=rt
   exact⟨p,xs,rfl,gR.of (E.g.fh _ _ h1),by rw [h2.length];exact hl _ _ _ e1,F,τ,ts,τ',E,h2,e1,q⟩
  ·cases e1)
end
structure XI where
 C:Addr
 ns:List Str
 ts:List T
abbrev FX:=aD->Option (XI×aD)
def Kt (K:.l)(Y0 Y9 F:Hp)(od:.cS)(c:XI):Prop:=(c.ns=[]/\c.ts=[]/\od=none)\/∃d us,od=some d/\F d=some (.xd (c.ns.zip us))/\us.length=c.ns.length/\aT K F c.ts us/\∀p,V.ref p∈us->Y0 p=none/\Y9 p=none
def Qy (b:Bool)(X:Cx)(pins:.s)(Y0 Y9 F:Hp)(c:XI)(τ':aD)(e:Value)(s':Shared):Prop:=
 ∃σ' F' H' od,((b=true/\Made X pins σ' H' c.C od e s')\/ND X pins σ' H' c.C od e s')/\aJ X.K Y0 Y9 F' H' σ' τ'/\aV F F'/\Kt X.K Y0 Y9 F' od c
def RE (b:Bool)(X:Cx)(ss:.bG)(fx:FX):Prop:=∀Y0 Y9 pins s σ H F τ C τ',Inv X pins σ H s->aJ X.K Y0 Y9 F H σ τ->fx τ=some (C,τ')->wpAny .q X.A (execs ss X.env) .aJ (Qy b X pins Y0 Y9 F C τ') s
section
variable {P:.am}{w:World}{K:.l}{mg:.G}{base:Heap}{j k n:Nat}{x:Str}{C:Addr}{dx:List T->Option XI}
end
section
variable {X:Cx}{e:Expr}{es:.az}{pos:Pos}{g:FA}{b:Bool}
def N4:FX:=fun _=>none
theorem MT {ss:.bG}:RE b X ss N4:=fun Y0 Y9 pins s σ H F τ C τ' I E e1=>by cases e1
end
section
variable {X:Cx}{e:Expr}{pos:Pos}{g:FA}
end
section
variable {P:.am}{w:World}{K:.l}{mg:.G}{base:Heap}
end
abbrev Kq:=XI->aD->Option R
def Pz (X:Cx)(hs:List ExceptHandler)(fh:Kq):Prop:=∀Y0 Y9 pins s5 σ H F τ c od a r Dn E,pw X pins σ H c.C od a s5->aJ X.K Y0 Y9 F H σ τ->Kt X.K Y0 Y9 F od c->fh c τ=some r->pq X.K Y0 Y9 F Dn r ->
 wpAny .q X.A (handleBy (.c a) X.env hs) (SP X pins Dn) E s5
structure AW (K:.l)(D:Addr)(tbl:List .db):Prop where
 cls:∃bD iD,lx K D bD iD/\bD.contains .fo=true
 all:∀a∈tbl,∃bC iC,lx K a.1 bC iC/\(Value.ref a.1::bC).contains (.c D)=a.2
def FN (fb:FS)(fx:FX)(fh:Kq):FS:=fun τ=>match fb τ with
 |some r=>some r
 |none=>(fx τ).bind fun p=>fh p.1 p.2
def KJ:Kq:=fun _ _=>none
def CD (tbl:List .db)(fh:FS)(more:Kq):Kq:=fun c τ=>(findB c.C tbl).bind fun b=>if b=true then fh τ else more c τ
section
variable {X:Cx}{pos:Pos}
theorem MN:Pz X [] KJ:=fun Y0 Y9 pins s5 σ H F τ c od a r Dn E z E1 y e q=>by cases e
theorem Gv {K:.l}{Y0 Y9 F H:Hp}{σ:L2.St}{τ:aD}{a:Addr}{φ:Heap->Prop}(E2:.aG)(na:H a=none):bw F H (upd F a (.ext φ)) (upd H a (.ext φ)):=by
 have nF:F a=none:=E2.g.fh.free na
 exact⟨fun c o e=>by rw [aE (bx e nF)];exact e,fun c o e=>by rw [aE (bx e na)];exact e,fun c o e=>by
  by_cases hc:c=a
  ·rw [hc] at e ⊢
   rw [aQ] at e ⊢
   exact e
  ·rw [aE hc] at e ⊢
   exact E2.g.fh _ _ e,fun c o e=>by
  by_cases hc:c=a
  ·exact .inr (by rw [hc];exact na)
  ·rw [aE hc] at e
   exact .inl e⟩
theorem HI {suite:.bG}{Y6:Stmt}{x:Str}{np hpos:Pos}{D:Addr}{tbl:List .db}{fh:FS}{more:Kq}{hs:List ExceptHandler}
  (hg:Gl X x) (hm:X.mg x=some (.c D)) (tk:AW X.K D tbl) (hh:∀a,AV (X.inS (.c a)) (Y6::suite) fh) (hr:Pz X hs more) (hdb:.L=false:=by decide):
  Pz X (.ExceptHandler (.Y x np) none (Y6::suite) hpos::hs) (CD tbl fh more):=by
 intro Y0 Y9 pins s5 σ H F τ c od a r Dn E z E1 y e q
 obtain⟨bD,iD,cD,hbD⟩:=tk.cls
 obtain⟨b,e1,e⟩:=bind_some e
 obtain⟨bC,iC,cC,hCD⟩:=tk.all _ (mF e1)
 cases b with
 |false =>
  rw [if_neg zaK] at e
  exact Eh z cC cD hbD hCD hg hm (hr Y0 Y9 pins s5 σ H F τ c od a r Dn E z E1 y e q) hdb
 |true =>
  rw [if_pos rfl] at e
  refine Bp z cC cD hbD hCD hg hm (fun s2 na I2=>?_) hdb
  have gr:=Gv (φ:=nZ a c.C od) E1 na
  exact hh a Y0 Y9 pins s2 _ _ Dn I2 ⟨_,_,r,E1.grow gr,e,q.mono gr.sF⟩
theorem MS {body:.bG}{h0:ExceptHandler}{hs:List ExceptHandler}{fb:FS}{fx:FX}{fh:Kq}(hx:∀e s,X.xe e s->False)(hst:X.stack=X.env::X.outer)(hf:X.env.frame=some X.env.locals)
  (hb:AV X body fb) (hxb:RE false X body fx) (hh:Pz X (h0::hs) fh):SS X (.Try body (h0::hs) [] [] pos) (FN fb fx fh):=by
 intro Y0 Y9 pins s σ H Dn I z
 obtain⟨F,τ,r,E,e1,q⟩:=z
 unfold FN at e1
 split at e1
 ·next r' eb =>
  cases e1
  refine wpAny_Try_except (wpAny_mono (hb Y0 Y9 pins s σ H Dn I ⟨F,τ,_,E,eb,q⟩) (fun f s1 z=>?_) fun e s z=>False.elim (hx e s z))
  cases f with
  |next =>
   obtain⟨σ',H',I',z⟩:=z
   exact qU pins s1 σ' H' Dn I' z
  |ret v=>exact z
  |brk=>exact z
  |cont=>exact z
 ·obtain⟨⟨c,τ1⟩,ex,e1⟩:=bind_some e1
  refine wpAny_Try_except (wpAny_mono (hxb Y0 Y9 pins s σ H F τ c τ1 I E ex) (fun _ _ z=>z.elim) fun ev s1 z=>?_)
  obtain⟨σ',F',H',od,z,E2,sF,y⟩:=z
  rcases z with ⟨z,_⟩ | z
  ·cases z
  exact A3 hst hf z fun a s5 ea zl=>hh Y0 Y9 pins s5 σ' H' F' τ1 c od a r Dn _ zl E2 y e1 (q.mono sF)
end
section
variable {X:Cx}{e:Expr}{pos:Pos}
end
section
variable {X:Cx}{e:Expr}{pos:Pos}
end
section
variable {X:Cx}{es:.az}{pos:Pos}
def vM (gs:.bF):FG:=fun t τ=>match t with
 | .lst ts=>gs ts τ
 | .tup ts=>gs ts τ
 |_=>none
theorem HG {gs:.bF}{k:Nat}{n:Nat}(hc:.bL)(h:Ld X es gs)(hl:∀ts τ τ',gs ts τ=some τ'->ts.length=n)
  (hn:(assignEach es X.env).length=n:=by rfl) (hst:(assignEach es X.env).findIdx? (·.1)=none:=by rfl):SG X (.Tuple es k pos) (vM gs):=by
 intro Y0 Y9 pins s σ H v u Q I r h'
 obtain⟨F,τ,t,τ',E,rt,e1,q⟩:=h'
 cases t with
 |lst ts=>exact ML hc h hl hn hst Y0 Y9 pins s σ H v u Q I r ⟨F,τ,.lst ts,τ',E,rt,e1,q⟩
 |tup ts=>exact eA hc h hl hn hst Y0 Y9 pins s σ H v u Q I r ⟨F,τ,.tup ts,τ',E,rt,e1,q⟩
 |_=>cases e1
end
def Kx (K:.l)(C:Addr)(bm:.X)(ini:.dI):Bool:=match K.lookup C with
 | some ⟨.type t,_,.cls ⟨_,_,mro,N,_,_,_,_,_,_,hd⟩,⟨[_,_,_,_,some (.builtin nid),_]⟩⟩=>t == "type"&&decide (mro=.ref C::bm)&&!hd&&nid == "ValueError.__new__"&&(match K.lookup N with
  |some ⟨_,_,.dict es _,_⟩=>es.all (fun e=>match e.key with | .str _ _=>true | _=>false)&&decide (nsFind es "__init__" = ini)
  | _=>false)
 |_=>false
theorem lx.of {K:.l}{C:Addr}{bm:.X}{ini:.dI}(h:Kx K C bm ini=true):lx K C bm ini:=by
 unfold Kx at h
 split at h
 ·next t dd nm bs mro N q hdct sn sub ab col hd k0 k1 k2 k3 nid k5 e1 =>
  simp only [Bool.and_eq_true,beq_iff_eq,decide_eq_true_eq,Bool.not_eq_true'] at h
  obtain⟨⟨⟨⟨rfl,rfl⟩,rfl⟩,rfl⟩,h⟩:=h
  split at h
  ·next c d es ep sl e2 =>
   simp only [Bool.and_eq_true,decide_eq_true_eq] at h
   exact⟨N,nm,q,bs,hdct,sn,sub,ab,col,_,k0,k1,k2,k3,k5,_,es,ep,e1,e2,rfl,h.1,h.2⟩
  ·cases h
 ·cases h
section
variable {X:Cx}{r t:Nat}{rn tn:Str}{p1 p2 p3 p4 p5 p6 pos q1 q3 q4 q5 q6 pos':Pos}
end
section
variable {K:.l}{Y0 Y9 F H:Hp}{σ:L2.St}{τ:aD}{A:.aj}
end
section
variable {X:Cx}{t x:Nat}{tn xn:Str}{q1 q2 p1 p2 p3 p4 p5 r1 r2 r3 r4 r5 r6 r7 r8 r9 pos':Pos}
end
section
variable {X:Cx}{t x y:Nat}{tn xn yn:Str}{q1 q2 p1 p2 p3 p4 p5 r1 r2 r3 r4 r5 r6 r7 r8 r9 pos' a1 a2 c1 c2:Pos}
end
section
variable {P:.am}{w:World}{K:.l}{mg:.G}{base:Heap}{j k n:Nat}{x:Str}
end
section
variable {X:Cx}{e a b:Expr}{es:.az}{pos:Pos}{g:FA}{k n:Nat}
end
section
variable {X:Cx}{x:Nat}{xn:Str}{r1 r2 r3 r4 r5 r6 r7 r8 r9 a1 a2 a3:Pos}
end
section
variable {K:.l}{Y0 Y9 F H F' H':Hp}{σ σ':L2.St}{τ τ':aD}{A:.aj}
end
section
variable {X:Cx}{x:Nat}{e:Expr}{pos:Pos}{hs:.I}
end
section
variable {X:Cx}{r pl nu:Nat}{rn pn nn:Str}{t1 t2 px e1 e2 e3 e4 e5 b1 b2 b3 b4 pos:Pos}{E:Expr}{fE:FE}{φ:T->T}
end
section
variable {X:Cx}{r t x pl nu:Nat}{rn tn xn pn nn:Str}{t1 t2 px e1 e2 e3 e4 e5 b1 b2 b3 b4 pos c1 c2 cpos:Pos}{E:Expr}{φ:T->T}{kx:Nat}
end
section
variable {K:.l}{F H:Hp}
end
section
variable {X:Cx}{r t x pl nu:Nat}{xn:Str}{a1 a2 a3 f1 f2:Pos}
end
section
variable {K:.l}{F H:Hp}{A:.aj}
end
section
variable {X:Cx}{e:Expr}{pos:Pos}{x:Nat}
end
section
variable {X:Cx}{x:Nat}{xn:Str}{r1 r2 r3 r4 r5 r6 r7 r8 r9 a1 a2 a3:Pos}
end
section
variable {X:Cx}{e:Expr}{pos:Pos}{b:Bool}
end
section
variable {K:.l}{Y0 Y9 F H F' H':Hp}{σ σ':L2.St}{τ τ':aD}{x:Nat}{p:Addr}{tss:List (List T)}{A:.aj}
end
section
variable {X:Cx}{pos p2:Pos}
end
section
variable {X:Cx}{e:Expr}{pos:Pos}{x:Nat}
end
section
variable {K:.l}{Y0 Y9 F H F' H':Hp}{σ σ':L2.St}{τ τ':aD}
end
section
variable {X:Cx}{e v:Expr}{pos pos2:Pos}{x i j:Nat}{nx ni nj:Str}{q1 q2 q3 q4 q5 p1 p2 p3:Pos}{fo:uu}{fv:FE}{t:T}
end
section
variable {X:Cx}{e:Expr}{pos:Pos}{x:Nat}
end
section
variable {X:Cx}{e:Expr}{pos:Pos}{x:Str}{f:FE}
end
section
variable {prog:.am}{w:World}{A:Around}{R:.e3}{s:Shared}{elt tg iter tg2 iter2:Expr}{scope:Scope}{pos:Pos}{it acc:Value}{env:Env}
end
section
variable {X:Cx}{K:.l}{D:Addr}{F₂ H₁:Hp}{pins:.s}{σ:L2.St}{H F:Hp}{τ:aD}{us:List T}{s:Shared}
end
section
variable {X':Cx}{tg iter tg2 iter2 elt:Expr}{scope:Scope}{pos:Pos}{fg2:FG}{fi2:FA}{fe:FE}{D:Addr}{F₂ H₁:Hp}
end
section
variable {X:Cx}
end
variable {X:Cx}
def Jq:PyData->Option (List PyData)
 | .list ds=>some ds
 |_=>none
def IV (neg:Bool)(a b:T):Option T:=(wm a).bind fun d=>(wm b).bind fun q=>(Jq q).bind fun ds=>if SeqAt.shaped d=true/\SeqAt.shaped (.list ds)=true then some (.bl (if neg then !(ds.any fun y=>PyData.eqv y d) else ds.any fun y=>PyData.eqv y d)) else none
abbrev Nm:=IV false
abbrev pG:=IV true
theorem CQ {hu:.bE}{ds:List PyData}{d:PyData}(h:SeqAt.shaped (.list ds)=true):PyData.canLayAll0 ds=true/\X.A.units+1+min (PyData.depthAll ds) d.depth<cLine:=by
 obtain⟨h1,h2⟩:=zbE.mp h
 refine⟨h1,?_⟩
 have h3:PyData.depthAll ds+1≤64:=of_decide_eq_true h2
 have:=Nat.min_le_left (PyData.depthAll ds) d.depth
 omega
theorem ON (hu:.bE):lr X (.X .In) Nm:=by
 intro pins s σ H x y v u Q I rx ry ⟨F,a,b,t,sm,ra,rb,e,q⟩
 obtain⟨d1,e1,e⟩:=bind_some e
 obtain⟨d2,e2,e⟩:=bind_some e
 obtain⟨ds,e3,e⟩:=bind_some e
 split at e
 ·next hs =>
  cases e
  cases d2<;>cases e3
  obtain⟨as,q1⟩:=eS I sm e1 ra rx
  obtain⟨bs,q2⟩:=eS I sm e2 rb ry
  obtain⟨h1,h2⟩:=CQ (X:=X) (hu:=hu) (d:=d1) hs.2
  exact SeqAt.in_list_reads q2 q1 h1 (SeqAt.canLay_of_shaped hs.1) h2 .b4
 ·cases e
theorem Ha (hu:.bE):lr X (compareOp .NotIn) pG:=by
 intro pins s σ H x y v u Q I rx ry ⟨F,a,b,t,sm,ra,rb,e,q⟩
 obtain⟨d1,e1,e⟩:=bind_some e
 obtain⟨d2,e2,e⟩:=bind_some e
 obtain⟨ds,e3,e⟩:=bind_some e
 split at e
 ·next hs =>
  cases e
  cases d2<;>cases e3
  obtain⟨as,q1⟩:=eS I sm e1 ra rx
  obtain⟨bs,q2⟩:=eS I sm e2 rb ry
  obtain⟨h1,h2⟩:=CQ (X:=X) (hu:=hu) (d:=d1) hs.2
  exact SeqAt.notIn_list_reads q2 q1 h1 (SeqAt.canLay_of_shaped hs.1) h2 .b4
 ·cases e
variable {X:Cx}{e:Expr}{pos:Pos}
theorem HF {x:Str}{a:Addr}(hg:Gl X x)(hm:X.mg x=some (.c a))(hd:.L=false:=by decide):SE X .cC (fC (.ptr a)):=
 gk (oO (v:=.ref a) hg hm rfl hd) fun F=>rfl
section
variable {X:Cx}{pins:.s}{σ:L2.St}{H:Hp}{s:Shared}{h':Heap}{a:Addr}{o:HO}
end
section
variable {X:Cx}{e:Expr}{pos:Pos}{g:FA}
end
section
variable {X:Cx}{pins:.s}{σ:L2.St}{H:Hp}{s:Shared}{a:Addr}{φ ψ:Heap->Prop}
end
section
variable {X:Cx}{e:Expr}{pos:Pos}{g:FA}
end
section
variable {prog:.am}{w:World}{A:Around}{E:.m}{s:Shared}{K:.l}{x C f:Addr}{ox:Obj}{od:Option Obj}{name:Str}{bm:.X}
end
section
variable {X:Cx}{o:Expr}{m:Str}{pos apos:Pos}{fo:FE}{k:Nat}
end
section
variable {X:Cx}
end
section
variable {X:Cx}{e:Expr}{pos:Pos}{f:FE}
end
def Qu (x:Str):It:=⟨fun i _=>i<x.cps.size,fun i H v H'=>H'=H/\∃c,x.cps[i]? = some c/\v=.str ⟨#[c]⟩,fun i _=>i=x.cps.size⟩
theorem Ia {P:.am}{w:World}{K:.l}{tg:Expr}(it:Addr)(x:Str)(t:Tok)(kd:String)(hk:["enumerate","zip","dict_itemiterator","dict_reverseitemiterator","odict_iterator","itertools.zip_longest","itertools.pairwise"].contains kd=false)
  (W:∀A:Around,A.handled=none->PySem.Walks P w A it [it] [it] x.cps.size (SignAt x) (fun i h=>h.IsStrIter it kd x t i))
  (S:∀(A:Around) (i:Nat) (s:Shared) (Q:.m) (E:.m),s.heap.IsStrIter it kd x t i->Q .fC s->wpAny (model P w) A (pyIter .fC) Q E s):Turn P w K tg (Qu x) [it] it (fun i h=>h.IsStrIter it kd x t i) where
 mem:=.h
 obj:=fun i h st b hb=>by
  have e:b=it:=by simpa using hb
  subst e
  obtain⟨o,e,c,d⟩:=st
  exact⟨o,e,fun v z=>by rw [d] at z;cases z⟩
 keep:=fun i h h' st k=>by obtain⟨o,e,r⟩:=st;exact⟨o,k it .h o e,r⟩
 item:=by
  intro X hP hw hK hc i pins s σ H E I hf st hg
  subst hP hw hK
  obtain⟨f0,f1,f2,f3,f4,f5⟩:=hf it .h
  refine (W X.A .cX).item i s _ _ hg st fun v h' tk hv st' kk=>?_
  obtain⟨c,u,hc1,rfl⟩:=hv
  have I1:Inv X pins σ H { s with heap:=h',toks:=tk }:=I.turned .fc f0 f1 f3 f4 f5
  obtain⟨o,e,c',d⟩:=id st'
  exact⟨_,rfl,CL (s:={ s with heap:=h',toks:=tk }) e c' d hk ⟨.str ⟨#[c]⟩,H,I1,⟨_,rfl⟩,⟨rfl,c,hc1,rfl⟩,st',fun b hb=>(hf b hb).1⟩⟩
 done:=by
  intro X hP hw hK hc i pins s σ H E I hf st hg
  subst hP hw hK
  obtain⟨f0,f1,f2,f3,f4,f5⟩:=hf it .h
  obtain rfl:i=x.cps.size:=hg
  exact (W X.A .cX).done s _ _ st fun h' tk kk=>⟨rfl,I.turned .fc f0 f1 f3 f4 f5⟩
 self:=S
section
variable {X:Cx}{tg l:Expr}{f:FE}
def QO (tl:TE):TI:=fun σ H R=>tl σ H fun x H1=>∃a,x=.str a/\R (Qu a) H1
theorem Ms {tl:TE}(hl:PE X l tl):PI X tg l (QO tl):=by
 intro pins s σ H R I h
 refine cR (hl pins s σ H _ I h) fun v s1 .aA=>?_
 obtain⟨a,e,q⟩:=q1
 subst e
 obtain⟨t,rfl⟩:=r1
 have fin:∀kd,["enumerate","zip","dict_itemiterator","dict_reverseitemiterator","odict_iterator","itertools.zip_longest","itertools.pairwise"].contains kd=false->(∀A:Around,A.handled=none->PySem.Walks X.prog X.w A s1.heap.objs.size [s1.heap.objs.size] [s1.heap.objs.size] a.cps.size (SignAt a) (fun i h=>h.IsStrIter s1.heap.objs.size kd a t i))->(∀(A:Around) (i:Nat) (s:Shared) (Q:.m) (E:.m),s.heap.IsStrIter s1.heap.objs.size kd a t i->Q (.ref s1.heap.objs.size) s->wpAny .q A (pyIter (.ref s1.heap.objs.size)) Q E s) ->
   Qx X pins σ tg R (.ref s1.heap.objs.size) { s1 with heap:=s1.heap.push { cls:=.type kd,data:=.fields #[.str a t,.int 0 0] } }:=fun kd hk W S=>by
  refine⟨s1.heap.objs.size,[s1.heap.objs.size],_,_,H1,rfl,I1.kept (t':=s1.toks) fun b o e=>Heap.get?_push_of_some _ e,Ia _ a t kd hk W S,.aZ,fun b hb=>?_,q⟩
  have e:b=s1.heap.objs.size:=by simpa using hb
  subst e
  exact I1.fpOk .bU (I1.hok.fresh .bU)
 cases ha:a.cps.all (· < 128)
 ·exact wpAny_pyIter_wide ha (fin _ .f (fun A hA=>Walks.strWide hA _ a t) fun A i s Q E st h=>wpAny_pyIter_striter_wide st h)
 ·exact wpAny_pyIter_ascii ha (fin _ .f (fun A hA=>Walks.strAscii hA _ a t) fun A i s Q E st h=>wpAny_pyIter_striter_ascii st h)
def jF (x:Str):List T:=x.cps.toList.map fun c=>.str ⟨#[c]⟩
theorem signs_get {x:Str}{i:Nat}{t:T}(e:(jF x)[i]? = some t):∃c,x.cps[i]? = some c/\t=.str ⟨#[c]⟩:=by
 unfold jF at e
 rw [zaT,Array.getElem?_toList] at e
 cases h:x.cps[i]? with
 |none=>rw [h] at e;cases e
 |some c=>rw [h] at e;cases e;exact⟨c,rfl,rfl⟩
theorem ER {K:.l}{F:Hp}(x:Str):TM.Walks K F (jF x) (Qu x):=by
 refine⟨fun i t F1 H1 e s1 s2=>?_,fun i t F1 H1 v H2 e s1 s2 y=>?_,fun F1 H1 s1 s2=>by show (jF x).length=_;simp [jF]⟩
 ·obtain⟨c,h,_⟩:=signs_get e
  exact (za7.mp h).1
 ·obtain⟨rfl,c,h1,rfl⟩:=y
  obtain⟨c',h2,rfl⟩:=signs_get e
  rw [h1] at h2;cases h2
  exact⟨F1,bw.refl s2,rfl⟩
def so (f:FE):FA:=fun τ=>(f τ).bind fun p=>match p.1 with | .str x=>some (jF x,p.2) | _=>none
theorem HJ (h:SE X l f):SI X tg l (so f):=fun Y0 Y9=>PI.weak (Ms .c3) fun σ H R hq__=>by
 obtain⟨F,τ,ts,τ',E,e1,q⟩:=hq__
 obtain⟨⟨x,τ1⟩,e2,e1⟩:=bind_some e1
 dsimp only at e1
 split at e1
 ·cases e1
  refine⟨F,τ,_,τ',E,e2,fun F' H' v E' s' r'=>?_⟩
  cases r'
  exact⟨_,rfl,q F' H' _ E' s' (ER _)⟩
 ·cases e1
end
section
variable {X:Cx}{o e:Expr}{fo fe:FE}{name:Str}{id:String}{apos cpos:Pos}{g:.cP}
abbrev Ks (X:Cx)(id:String)(g:.cP):Prop:=NI X id (fun x vs H Q=>∃y,vs=[y]/\MG X.K g x y H Q)
theorem gM (slot:Slot "str" name id)(hty:.dS)(hm:Ks X id g)(gs:∀a b t,g a b=some t->∃x,a=.str x)(ho:SE X o fo)(he:SE X e fe)
  (hbase:attributeBase o name X.env (.Q o)=eval o X.env:=by rfl)
  (hfew:((backTo cpos (starEach [e] X.env)).all (fun x=>!x.1)&&(backToKw cpos .cL).all (fun x=>x.1.isSome)
   && decide ([e].length+([]:List Keyword).length+(if ([]:List Keyword).isEmpty then 0 else 1)<30))=true:=by rfl)
  (hline:.em=true:=by rfl) (hs:starEach [e] X.env=(.i e)::starEach [] X.env:=by rfl) (hplain:(backTo cpos (starEach [] X.env)).any (·.1)=false:=by rfl):
  SE X (.Call (.S name) [e] [] cpos) (ar g fo fe):=fun Y0 Y9 =>
 PE.weak (Hi PySem.F.plainAttrs_str slot hty hm (ho Y0 Y9) (kr .fy tj hs) hbase hfew hline hs hplain) fun σ H Q hq__=>by
  obtain⟨F,τ,t,τ',E,e1,q⟩:=hq__
  obtain⟨⟨a,τ1⟩,e2,e1⟩:=bind_some e1
  obtain⟨⟨b,τ2⟩,e3,e1⟩:=bind_some e1
  obtain⟨u,e4,e1⟩:=bind_some e1
  cases e1
  obtain⟨x,rfl⟩:=gs _ _ _ e4
  refine⟨F,τ,_,τ1,E,e2,fun F1 H1 v1 E1 s1 r1=>?_⟩
  cases r1
  exact⟨rfl,F1,τ1,b,_,E1,e3,fun F2 H2 v2 E2 s2 r2=>⟨v2,rfl,F2,.str x,b,t,E2.g.fh,rfl,r2,e4,fun F' H' v gr rv=>q F' H' v (E2.grow gr) ((s1.trans s2).trans gr.sF) rv⟩⟩
def su:T->T->Option T
 | .str a,.str b=>if a.length≤sizeLine then some (.str (Txt.removeprefix a b)) else none
 |_,_=>none
theorem GU:Ks X "str.removeprefix" su:=by
 intro pins s σ H x vs v us Q I rx rv ⟨y,hvs,F,a,b,t,sm,ra,rb,e,q⟩
 subst hvs
 obtain⟨u1,rfl,r1⟩:=Vals.one rv
 unfold su at e
 split at e
 ·split at e
  ·next hl =>
   cases e;cases ra;cases rb
   obtain⟨t1,rfl⟩:=rx
   obtain⟨t2,rfl⟩:=r1
   exact SC.removeprefix (fun t' k=>⟨.str _,H,I.tok _,.aB,q F H _ .ak rfl⟩) hl
  ·cases e
 ·cases e
def LH:T->T->Option T
 | .str a,.int i=>if PadOk i=true then some (.str (Txt.zfill a i)) else none
 |_,_=>none
theorem OE:Ks X "str.zfill" LH:=by
 intro pins s σ H x vs v us Q I rx rv ⟨y,hvs,F,a,b,t,sm,ra,rb,e,q⟩
 subst hvs
 obtain⟨u1,rfl,r1⟩:=Vals.one rv
 unfold LH at e
 split at e
 ·split at e
  ·next hl =>
   cases e;cases ra;cases rb
   obtain⟨t1,rfl⟩:=rx
   obtain⟨t2,rfl⟩:=r1
   exact SC.zfill hl (fun t' k=>⟨.str _,H,I.tok _,.aB,q F H _ .ak rfl⟩)
  ·cases e
 ·cases e
def qh:T->T->Option T
 | .str a,.str b=>if (b.length == 0)=false/\a.length≤sizeLine then some (.tup [.str (Txt.partition a b).1,.str (Txt.partition a b).2.1,.str (Txt.partition a b).2.2]) else none
 |_,_=>none
theorem rH {prog:.am}{w:World}{A:Around}{E:.m}{s:Shared}{x y:Str}{t u:Tok}{Q:.m}(hy:(y.length == 0)=false)(hsz:x.length≤sizeLine)
  (h:∀ta tb tc k,Q .b7 { s with heap:=s.heap.push { cls:=.type "tuple", data:=.seq [.str (Txt.partition x y).1 ta,.str (Txt.partition x y).2.1 tb,.str (Txt.partition x y).2.2 tc].toArray },toks:=k }):
  wpAny .M A (call (.builtin "str.partition") [.str x t,.str y u]) Q E s:=by
 refine call_meets F.slot_str_partition (typeIs_str _ _ _) F.entry_str_partition (F.args_str_partition_2 _ _) (meets_str_partition x y t u hy hsz) ?_
 have h':=h
 unfold Txt.partition at h'
 revert h'
 cases Builtin.Str.occurrences x y 0 x.length 1 with
 |nil=>intro h';exact h' _ _ _ _
 |cons i r=>intro h';exact h' _ _ _ _
theorem Jw:Ks X "str.partition" qh:=by
 intro pins s σ H x vs v us Q I rx rv ⟨y,hvs,F,a,b,t,sm,ra,rb,e,q⟩
 subst hvs
 obtain⟨u1,rfl,r1⟩:=Vals.one rv
 unfold qh at e
 split at e
 ·next _ _ x0 y0 =>
  split at e
  ·next hl =>
   cases e;cases ra;cases rb
   obtain⟨t1,rfl⟩:=rx
   obtain⟨t2,rfl⟩:=r1
   refine rH hl.1 hl.2 fun ta tb tc k=>?_
   have hf:H s.heap.objs.size=none:=I.fresh
   have gr:=bw.new (.tup [.str (Txt.partition x0 y0).1,.str (Txt.partition x0 y0).2.1,.str (Txt.partition x0 y0).2.2]) sm hf
   refine⟨.ref s.heap.objs.size,_,I.laid (t':=k) (o:=.tup [.str (Txt.partition x0 y0).1,.str (Txt.partition x0 y0).2.1,.str (Txt.partition x0 y0).2.2]) .dD .bU ?_,rfl,q _ _ _ gr ⟨_,_,rfl,mM.of aQ,⟨_,_,rfl,rfl,_,_,rfl,rfl,_,_,rfl,rfl,rfl⟩⟩⟩
   exact⟨RL,_,.cons .aB (.cons .aB (.aq .aB)),.fd⟩
  ·cases e
 ·cases e
def strsOf:List T->Option (List Str)
 |[]=>some []
 | .str x::ts=>(strsOf ts).bind fun r=>some (x::r)
 |_::_=>none
theorem oX {K:.l}{F:Hp}:∀{ts:List T} {ys:.Y} {vs:List V} {us:.X},strsOf ts=some ys->aT K F ts vs->Vals vs us->StrsAre us ys
 |[],_,_,_,e,r,rv=>by cases e;cases r;cases rv;exact .nil
 | .str x::ts,_,_,_,e,r,rv=>by
  obtain⟨ys,e1,e⟩:=bind_some e
  cases e
  obtain⟨v,rr,rfl,h1,h2⟩:=r
  cases h1
  cases rv with
  |cons r1 r2 =>
   obtain⟨t,rfl⟩:=r1
   exact .cons _ _ (oX e1 h2 r2)
 | .non::_,_,_,_,e,_,_=>by cases e
 | .bl _::_,_,_,_,e,_,_=>by cases e
 | .int _::_,_,_,_,e,_,_=>by cases e
 | .ty _::_,_,_,_,e,_,_=>by cases e
 | .tup _::_,_,_,_,e,_,_=>by cases e
 | .lst _::_,_,_,_,e,_,_=>by cases e
 | .scr _::_,_,_,_,e,_,_=>by cases e
 | .dct _ _::_,_,_,_,e,_,_=>by cases e
 | .obj _ _ _::_,_,_,_,e,_,_=>by cases e
 | .ptr _::_,_,_,_,e,_,_=>by cases e
 | .exc _ _ _::_,_,_,_,e,_,_=>by cases e
def zp:T->T->Option T
 | .str a,.lst ts=>(strsOf ts).bind fun ys=>if (ys.map (·.length)).sum+ys.length*a.length≤16777216 then some (.str (Txt.join a ys)) else none
 |_,_=>none
theorem Jv:Ks X "str.join" zp:=by
 intro pins s σ H x vs v us Q I rx rv ⟨y,hvs,F,a,b,t,sm,ra,rb,e,q⟩
 subst hvs
 obtain⟨u1,rfl,r1⟩:=Vals.one rv
 unfold zp at e
 split at e
 ·obtain⟨ys,e1,e⟩:=bind_some e
  split at e
  ·next hl =>
   cases e;cases ra
   obtain⟨p,xs,rfl,h1,h2⟩:=rb
   obtain⟨t1,rfl⟩:=rx
   cases r1
   obtain⟨its,rv2,p2,hz⟩:=I.list .fi
   exact join_list p2.isList (by simpa using oX e1 h2 rv2) hl fun t' k=>⟨.str _,H,I.tok _,.aB,q F H _ .ak rfl⟩
  ·cases e
 ·cases e
end
section
variable {X:Cx}{e:Expr}{pos:Pos}
def gg:List T->Option T
 |[.str x]=>if x.length≤640 then (PySem.intText? x).map .int else none
 |ts=>IH ts
theorem qO:gy X (.type "int") gg:=by
 intro pins s σ H xs us Q I rx ⟨F,ts,t,sm,r,e,q⟩
 by_cases hs:∃x,ts=[.str x]
 ·obtain⟨x,rfl⟩:=hs
  simp only [gg] at e
  split at e
  ·next hl =>
   cases hn:PySem.intText? x with
   |none=>rw [hn] at e;cases e
   |some n =>
    rw [hn] at e;cases e
    obtain⟨v,rr,rfl,h1,rfl⟩:=r
    cases h1
    obtain⟨u1,rfl,⟨t1,rfl⟩⟩:=Vals.one rx
    exact PySem.W.KIN.call_text hn hl ⟨.int n,H,I.tok _,.aB,q F H _ .ak rfl⟩
  ·cases e
 ·have e':IH ts=some t:=by
   unfold gg at e
   split at e
   ·next x=>exact absurd ⟨x,rfl⟩ hs
   ·exact e
  exact Ln pins s σ H xs us Q I rx ⟨F,ts,t,sm,r,e',q⟩
def Gg (neg:Bool):T->T->Option T
 | .str x,.str y=>some (.bl (if neg then (Builtin.Str.occurrences y x 0 y.length 1).isEmpty else !(Builtin.Str.occurrences y x 0 y.length 1).isEmpty))
 |_,_=>none
abbrev qw:=Gg false
abbrev IZ:=Gg true
theorem G7:lr X (.X .In) qw:=by
 intro pins s σ H x y v u Q I rx ry ⟨F,a,b,t,sm,ra,rb,e,q⟩
 unfold qw Gg at e
 split at e
 ·cases e;cases ra;cases rb
  obtain⟨t1,rfl⟩:=rx
  obtain⟨t2,rfl⟩:=ry
  exact P.in_str .b4
 ·cases e
def NQ:List T->Option T
 |[.int i,.int j]=>if vk i j then some (.tup [.int (i.fdiv j),.int (i.fmod j)]) else none
 |_=>none
theorem NO:gy X (.builtin "divmod") NQ:=by
 intro pins s σ H xs us Q I rx ⟨F,ts,t,sm,r,e,q⟩
 unfold NQ at e
 split at e
 ·next i j =>
  split at e
  ·next hc =>
   cases e
   obtain⟨v,rr,rfl,h1,v2,r2,rfl,h2,rfl⟩:=r
   cases h1;cases h2
   obtain⟨u1,u2,rfl,⟨t1,rfl⟩,⟨t2,rfl⟩⟩:=Vals.two rx
   refine divmod_int hc.1 ?_ (.inl (PyProof.noPylong_of_log2 (zaR (EY hc.2) (by decide:4000<9000))))
   have hf:H s.heap.objs.size=none:=I.fresh
   have gr:=bw.new (.tup [.int (i.fdiv j),.int (i.fmod j)]) sm hf
   refine⟨.ref s.heap.objs.size,_,I.laid (o:=.tup [.int (i.fdiv j),.int (i.fmod j)]) (fun b o e=>Heap.get?_push_of_some _ e) .bU ?_,rfl,q _ _ _ gr ⟨_,_,rfl,mM.of aQ,⟨_,_,rfl,rfl,_,_,rfl,rfl,rfl⟩⟩⟩
   exact⟨RK,_,.cons .aB (.aq .aB),.fd⟩
  ·cases e
 ·cases e
def Rw (K:.l)(te:TE)(tc:TO):TE:=fun σ H Q=>te σ H fun x H1=>tc σ H1 fun l H2=>l=some (-1)/\∃a xs,x=.ref a/\gR K H2 a xs/\∀p,H2 p=none->Q (.c p) (upd H2 p (.lst xs.reverse))
theorem Mm {c:Expr}{te:TE}{tc:TO}{p2:Pos}(he:PE X e te)(hc:PO X (some c) tc):PE X (.U e (.Slice none none (some c) p2)) (Rw X.K te tc):=by
 intro pins s σ H Q I h
 refine Subscript_ (cR .ck fun v s1 .aA=>?_)
 refine wpAny_Slice ?_
 rw [evalPart_none]
 refine wpAny_pure (.V (cR (hc pins s1 σ H1 _ I1 q1) fun vs s3 ⟨l,H3,I3,pl,q3⟩=>?_))
 obtain⟨rfl,a,xs,rfl,hx,q⟩:=q3
 have I4:Inv X pins σ H3 { s3 with heap:=s3.heap.push { cls:=.type "slice", data:=.fields #[.none,.none,vs] } }:=I3.kept (t':=s3.toks) fun b ob q=>Heap.get?_push_of_some _ q
 cases r1
 obtain⟨its,r,ht,hz⟩:=I4.list hx
 have hlen:=r.length
 show wpAny .q X.A (subscriptTail e (.Slice none none (some c) p2) (.c a) (.ref s3.heap.objs.size)) .bQ X.xe { s3 with heap:=s3.heap.push { cls:=.type "slice", data:=.fields #[.none,.none,vs] } }
 refine tail_any (ops:=[.ref a,.ref s3.heap.objs.size]) ht.isList.typeIs slot_list_getitem.lookup ?_ (by with_unfolding_all rfl)
 refine wpAny_getItem_list_slice ht.isList (Heap.IsSliceOf.new ..) .none .none pl .h ?_ (by rw [List.size_toArray]<;>omega)
 rw [PySem.W.krv_pick]
 refine⟨.ref _,_,I4.laid (t':=s3.toks) (o:=.lst xs.reverse) .dt .bU ?_,rfl,q _ (I4.hok.fresh .bU)⟩
 exact⟨by rw [List.length_reverse];exact hz,its.reverse,0,Vals.reverse r,Heap.get?_push_size _ rfl⟩
def kl (i:Nat)(fc:FO):FE:=fun τ=>match τ[i]? with
 |some (some _)=>(fc τ).bind fun q=>if q.1=some (-1) then match q.2[i]? with
  |some (.v us)=>some (.lst us.reverse,q.2)
  |_=>none else none
 |_=>none
theorem EH (i:Nat){x:Str}{p1 p2:Pos}{c:Expr}{fc:FO}(hv:PE X .dd (yu i))(hc:SO X (some c) fc):SE X (.U .dd (.Slice none none (some c) p2)) (kl i fc):=
 fun Y0 Y9=>PE.weak (Mm hv (hc Y0 Y9)) fun σ H Q hq__=>by
  obtain⟨F,τ,t,τ',E,e1,q⟩:=hq__
  unfold kl at e1
  split at e1
  ·next s e3 =>
   obtain⟨⟨l,τ2⟩,e4,e1⟩:=bind_some e1
   obtain⟨v0,g1,_⟩:=E.sl i _ e3
   dsimp only at e1
   split at e1
   ·next hl =>
    refine⟨v0,g1,F,τ,l,τ2,E,e4,fun F2 H2 E2 s2=>⟨hl,?_⟩⟩
    split at e1
    ·next us e6 =>
     cases e1
     obtain⟨v',k1,p,vs,rfl,k2,k3,k4,k5⟩:=E2.sl i _ e6
     rw [g1] at k1;cases k1
     refine⟨p,vs,rfl,gR.of k2,fun a ha=>?_⟩
     have gr:=bw.new (.lst vs.reverse) E2.g.fh ha
     exact q _ _ _ (E2.grow gr) (s2.trans gr.sF) ⟨a,_,rfl,aQ,aT.mono gr.sF k5.rev⟩
    ·cases e1
   ·cases e1
  ·cases e1
theorem wa {K:.l}{F:Hp}:∀{As:.aj} {vs:List V},aT K F (As.map .ptr) vs->vs=As.map .ref
 |[],_,h=>by cases h;rfl
 |A::As,_,h=>by
  obtain⟨v,rr,rfl,h1,h2⟩:=h
  rw [wa h2]
  cases (show v=V.ref A from h1)
  rfl
end
theorem Gw:∀a b t,su a b=some t->∃x,a=.str x:=fun a b t h=>by
 unfold su at h
 split at h
 ·exact⟨_,rfl⟩
 ·cases h
theorem Ol:∀a b t,LH a b=some t->∃x,a=.str x:=fun a b t h=>by
 unfold LH at h
 split at h
 ·exact⟨_,rfl⟩
 ·cases h
theorem Jc:∀a b t,qh a b=some t->∃x,a=.str x:=fun a b t h=>by
 unfold qh at h
 split at h
 ·exact⟨_,rfl⟩
 ·cases h
theorem Jb:∀a b t,zp a b=some t->∃x,a=.str x:=fun a b t h=>by
 unfold zp at h
 split at h
 ·exact⟨_,rfl⟩
 ·cases h
section
variable {env:Env}{es:.az}
end
section
variable {X:Cx}{e:Expr}{es:.az}{pos:Pos}{x:Nat}{g:FA}
end
section
variable {P:.am}{w:World}{K:.l}{mg:.G}{base:Heap}
end
section
variable {K:.l}{Y0 Y9 F H F' H':Hp}{σ σ':L2.St}{τ τ':aD}{x t w:Nat}{p q:Addr}{tss:List (List T)}{A:.aj}
end
section
variable {X:Cx}{e:Expr}{pos:Pos}{x t:Nat}
end
section
variable {prog:.am}{w:World}{A:Around}{E:.m}{s:Shared}
variable {z TI TO i1 i2 l2:Addr}{k c:Nat}{u:Str}{t1:Tok}{ys:.cK}{x y a b:Value}
end
section
variable {prog:.am}{w:World}{A:Around}{E:.m}{s:Shared}
end
section
variable {X:Cx}{e:Expr}{pos:Pos}{x:Nat}
end
section
variable {X:Cx}{e:Expr}{pos:Pos}
end
section
variable {K:.l}{Y0 Y9 F H F' H':Hp}{σ:L2.St}{τ τ':aD}{A:.aj}
end
section
variable {X:Cx}{e:Expr}{es:.az}{pos:Pos}{g:FA}
end
section
variable {X:Cx}{e:Expr}{pos:Pos}
def J2:V->List V->Hp->VK->Prop:=fun x vs H Q=>∃l xs i y,x=.ref l/\vs=[.int i,y]/\H l=some .c6/\0≤i/\i.toNat≤xs.length/\xs.length<1000/\Q .non (upd H l (.lst (xs.take i.toNat++y::xs.drop i.toNat)))
theorem Ew:RC X "list.insert" J2:=by
 intro pins s σ H x vs v us Q I rx rv h
 obtain⟨l,xs,i,y,rfl,rfl,hH,h0,h1,h2,q⟩:=h
 cases rx
 obtain⟨u1,u2,rfl,ra,rb⟩:=Vals.two rv
 obtain⟨t,rfl⟩:=ra
 obtain⟨z,its,n,r,hl,e⟩:=I.lstM hH
 have hk:i.toNat≤its.length:=by rw [<- hl];exact h1
 have hf:¬ (!Builtin.List.listFitsIndex i)=true:=by
  unfold Builtin.List.listFitsIndex
  simp
  omega
 refine call_meets F.slot_list_insert ⟨_,e,rfl⟩ F.entry_list_insert (F.args_list_insert_3 _ _ _) (AutoSeq1.list_insert_list_int_val_1 l its.toArray n i t u2 hf (by rw [zaE];omega)) ⟨e,?_⟩
 refine⟨.non,_,I.lset (its':=its.take i.toNat++u2::its.drop i.toNat) hH e ?_ ((r.take _).append (.cons rb (r.drop _))) ?_,rfl,q⟩
 ·show (its.toArray.extract 0 _).push u2++its.toArray.extract _=_
  rw [if_neg .e,zaE,zbu hk]
  simp
  exact List.take_of_length_le (by rw [zbk];exact zak _)
 ·rw [zai,za9,zaj,zbk]
  have:=bT (n:=xs.length+1) .e
  omega
def D9 (i:Nat)(f g:FE):FS:=fun τ=>match τ[i]? with
 |some (some (.own _))=>(f τ).bind fun p=>(g p.2).bind fun q=>match q.2[i]?,p.1 with
  |some (.v us),.int k=>if 0≤k/\k.toNat≤us.length/\us.length<1000 then some (.nx (q.2.set i (.v (us.take k.toNat++q.1::us.drop k.toNat)))) else none
  |_,_=>none
 |_=>none
theorem EK (i:Nat){x:Str}{e2:Expr}{p1 p2 p3:Pos}{f g:FE}(hv:PE X .dd (yu i))(he:SE X e f)(he2:SE X e2 g)
  (hbase:attributeBase .dd "insert" X.env (.Q .dd)=eval .dd X.env:=by rfl)
  (hfew:((backTo p3 (starEach [e,e2] X.env)).all (fun x=>!x.1)&&(backToKw p3 .cL).all (fun x=>x.1.isSome)&&decide ([e,e2].length+([]:List Keyword).length+(if ([]:List Keyword).isEmpty then 0 else 1)<30))=true:=by rfl)
  (hline:(p2.endLine == p3.line)=true:=by rfl) (hs:starEach [e,e2] X.env=(.i e)::starEach [e2] X.env:=by rfl) (hs2:starEach [e2] X.env=(.i e2)::starEach [] X.env:=by rfl) (hpl:(backTo p3 (starEach [e2] X.env)).any (·.1)=false:=by rfl)
  (hsw:swapsWith (.Call (.Attribute .dd "insert" p2) [e,e2] [] p3) none pos.line X.env=pure false:=by rfl):
  SS X (.Expr (.Call (.Attribute .dd "insert" p2) [e,e2] [] p3) pos) (D9 i f g):=fun Y0 Y9 =>
 PS.weak (ya (Hi PySem.F.plainAttrs_list PySem.F.slot_list_insert PySem.F.type_list_insert Ew hv (kr .fy (kr (he2 Y0 Y9) tj hs2) hs) hbase hfew hline hs hpl) hsw) fun D σ H hq__=>by
  obtain⟨F,τ,r,E,e1,q⟩:=hq__
  unfold D9 at e1
  split at e1
  ·next us0 e3 =>
   obtain⟨⟨y,τ1⟩,e2,e1⟩:=bind_some e1
   obtain⟨⟨y2,τ2⟩,e4,e1⟩:=bind_some e1
   dsimp only at e1
   split at e1
   ·next us k e5 _ =>
    split at e1
    ·next hk =>
     cases e1
     obtain⟨v,g1,p,vs,rfl,g2,g3,g4,g5⟩:=E.sl i _ e3
     refine⟨_,g1,.inl ⟨rfl,vs,gR.of g2⟩,F,τ,_,τ1,E,e2,fun F1 H1 w1 E1 s1 r1=>⟨F1,τ1,y2,τ2,E1,e4,fun F2 H2 w2 E2 s2 r2=>?_⟩⟩
     cases r1
     obtain⟨v',k1,p',vs',rfl,k2,k3,k4,k5⟩:=E2.sl i _ e5
     rw [g1] at k1;cases k1
     refine⟨p,vs',k,w2,rfl,rfl,k2,hk.1,by rw [k5.length];exact hk.2.1,by rw [k5.length];exact hk.2.2,q F2 _ σ (E2.turnOwn e5 g1 ((k5.take _).append ⟨_,_,rfl,r2,k5.drop _⟩)) .bq⟩
    ·cases e1
   ·cases e1
  ·cases e1
end
section
variable {X:Cx}{e:Expr}{pos:Pos}
variable {k n i:Nat}{x:Str}{p:Pos}{es:.az}{g:FA}{tbl:List .aN}
end
section
variable {K:.l}{Y0 Y9 F H:Hp}{σ:L2.St}{τ:aD}{A:.aj}{x:Nat}{t:T}{v:V}
end
section
variable {X:Cx}{e:Expr}{pos:Pos}
end
section
variable {X:Cx}{e:Expr}{pos:Pos}
end
end TM
namespace L2
open PySem PySem.Spec PyProof.Rows
section
variable {κ:Type}[DecidableEq κ]
def pX (kvs:.ea)(k:κ):Option V:=(kvs.find? fun kv=>decide (kv.1=k)).map (·.2)
def putK (kvs:.ea)(k:κ)(v:V):List (κ×V):=
 if .eH=true then kvs.map (fun kv=>if kv.1=k then (kv.1,v) else kv) else kvs++[(k,v)]
theorem my {p:κ×V}{r:.ea}{k:κ}(e:p.1=k):pX (p::r) k=some p.2:=by simp [pX,List.find?_cons,e]
theorem mx {p:κ×V}{r:.ea}{k:κ}(e:¬ p.1=k):pX (p::r) k=pX r k:=by simp [pX,List.find?_cons,e]
theorem AL (k:κ):∀kvs:List (κ×V),.eH=(pX kvs k).isSome
 |[]=>rfl
 |p::r=>by
  rw [List.any_cons]
  by_cases e:p.1=k
  ·simp only [my e,decide_eq_true e,Bool.true_or,Option.isSome_some]
  ·rw [mx e,decide_eq_false e,Bool.false_or];exact AL k r
theorem lL (kvs:.ea)(k:κ)(v:V):(putK kvs k v).length≤kvs.length+1:=by
 unfold putK
 split
 ·rw [zah];omega
 ·rw [zai,zaj,List.length_nil];omega
theorem mL.isSome_eq {o:Option V}{u:.dI}(r:mL o u):o.isSome=u.isSome:=by
 cases o with
 |none=>cases u with
  |none=>rfl
  |some _=>exact (show False from r).elim
 |some _=>cases u with
  |none=>exact (show False from r).elim
  |some _=>rfl
theorem KV.val {kvs:.ea}{vs:.eM}(r:KV kvs vs)(k:κ):mL (pX kvs k) (valueAt vs k):=by
 unfold KV at r
 induction r with
 |nil=>exact True.intro
 |@cons p q ps qs h t ih =>
  obtain⟨h1,h2⟩:=h
  by_cases e:p.1=k
  ·have e':q.1=k:=h1.symm.trans e
   have b:valueAt (q::qs) k=some q.2:=by simp [valueAt,List.find?_cons,e']
   rw [my e,b];exact h2
  ·have e':¬ q.1=k:=fun z=>e (h1.trans z)
   have b:valueAt (q::qs) k=valueAt qs k:=by simp [valueAt,List.find?_cons,e']
   rw [mx e,b];exact ih
theorem KV.any {kvs:.ea}{vs:.eM}(r:KV kvs vs)(k:κ):.eH=vs.any fun kv=>decide (kv.1=k):=by
 unfold KV at r
 induction r with
 |nil=>rfl
 |cons h t ih=>rw [List.any_cons,List.any_cons,ih,h.1]
theorem KV.repl {kvs:.ea}{vs:.eM}(r:KV kvs vs)(k:κ){y:V}{u:Value}(ry:RelV y u):
  KV (kvs.map fun kv=>if kv.1=k then (kv.1,y) else kv) (vs.map fun kv=>if kv.1=k then (kv.1,u) else kv):=by
 unfold KV at r ⊢
 induction r with
 |nil=>exact .nil
 |@cons p q ps qs h t ih =>
  rw [zaf,zaf]
  refine .cons ?_ ih
  obtain⟨h1,h2⟩:=h
  by_cases e:p.1=k
  ·rw [if_pos e,if_pos (h1.symm.trans e)];exact⟨h1,ry⟩
  ·rw [if_neg e,if_neg (fun z=>e (h1.trans z))];exact⟨h1,h2⟩
theorem KV.put {kvs:.ea}{vs:.eM}(r:KV kvs vs)(k:κ){y:V}{u:Value}(ry:RelV y u):KV (putK kvs k y) (stored vs k u):=by
 unfold putK stored
 rw [r.any k]
 by_cases e:(vs.any fun kv=>decide (kv.1=k))=true
 ·rw [if_pos e,if_pos e];exact r.repl k ry
 ·rw [if_neg e,if_neg e];exact Paired.snoc r ⟨rfl,ry⟩
theorem KV.keys {kvs:.ea}{vs:.eM}(r:KV kvs vs):kvs.map (·.1)=vs.map (·.1):=by
 unfold KV at r
 induction r with
 |nil=>rfl
 |cons h t ih=>rw [zaf,zaf,ih,h.1]
theorem KV.length {kvs:.ea}{vs:.eM}(r:KV kvs vs):kvs.length=vs.length:=Paired.length r
end
theorem vS {P:.am}{w:World}{k:Key}{u:Value}(r:RelV (kV k) u):(dE P w).is k u=true:=by
 cases k with
 |inl i=>obtain⟨t,e⟩:=(show ∃t,u=Value.int i t from r);subst e;exact zR P w i t
 |inr x=>obtain⟨t,e⟩:=(show ∃t,u=Value.str x t from r);subst e;exact zS P w x t
theorem vQ {P:.am}{w:World}:∀{ks:List Key} {us:.X},Vals (ks.map kV) us->ItemsAre (dE P w) ks us
 |[],_,r=>by rw [zb0] at r;cases r;exact .nil
 |k::ks,_,r=>by
  rw [zaf] at r
  cases r with
  |cons h t=>exact .cons (vS h) (vQ t)
abbrev KT (H:Hp):List (List Key×V)->List .c5->Prop:=Paired fun p q=>p.1=q.1/\H q.2.1=some (.tup (p.1.map kV))/\RelV p.2 q.2.2
theorem KT.val {H:Hp}{kvs:.da}{xs:List .c5}(r:KT H kvs xs)(k:List Key):mL (pX kvs k) ((atKey xs k).map (·.2)):=by
 induction r with
 |nil=>exact True.intro
 |@cons p q ps qs h t ih =>
  obtain⟨h1,_,h2⟩:=h
  by_cases e:p.1=k
  ·have e':q.1=k:=h1.symm.trans e
   have b:atKey (q::qs) k=some q.2:=by simp [atKey,List.find?_cons,e']
   rw [my e,b];exact h2
  ·have e':¬ q.1=k:=fun z=>e (h1.trans z)
   have b:atKey (q::qs) k=atKey qs k:=by simp [atKey,List.find?_cons,e']
   rw [mx e,b];exact ih
theorem KT.repl {H:Hp}{kvs:.da}{xs:List .c5}(r:KT H kvs xs)(k:List Key){y:V}{u:Value}(ry:RelV y u):
  KT H (kvs.map fun kv=>if kv.1=k then (kv.1,y) else kv) (xs.map (putAt k u)):=by
 induction r with
 |nil=>exact .nil
 |@cons p q ps qs h t ih =>
  rw [zaf,zaf]
  refine .cons ?_ ih
  obtain⟨h1,h2,h3⟩:=h
  unfold putAt
  by_cases e:p.1=k
  ·rw [if_pos e,if_pos (h1.symm.trans e)];exact⟨h1,h2,ry⟩
  ·rw [if_neg e,if_neg (fun z=>e (h1.trans z))];exact⟨h1,h2,h3⟩
theorem KT.put {H:Hp}{kvs:.da}{xs:List .c5}(r:KT H kvs xs)(k:List Key){b:Addr}{y:V}{u:Value}(hb:H b=some (.tup (k.map kV)))(ry:RelV y u):
  KT H (putK kvs k y) (storedH xs k b u):=by
 have e:.eH=(atKey xs k).isSome:=by
  rw [AL,(r.val k).isSome_eq,zbT]
 unfold putK storedH
 rw [e]
 by_cases q:(atKey xs k).isSome=true
 ·rw [if_pos q,if_pos q];exact r.repl k ry
 ·rw [if_neg q,if_neg q];exact Paired.snoc r ⟨rfl,hb,ry⟩
theorem KT.keeps {H H':Hp}{kvs:.da}{xs:List .c5}(r:KT H kvs xs)(ht:∀b ys,H b=some (.tup ys)->H' b=some (.tup ys)):KT H' kvs xs:=
 Paired.mapP r fun _ _ z=>⟨z.1,ht _ _ z.2.1,z.2.2⟩
section
variable {P:.am}{w:World}{H:Hp}{h:Heap}{a:Addr}
theorem K6 {u:HO}(ok:.e7)(e:Rd H a u):du P w H h a u:=e.ok ok
theorem si {kvs:.cs}(ok:.e7)(e:Rd H a .bD):kvs.length≤sizeLine/\(a == sysModules)=false/\∃vs,KV kvs vs/\h.DictOf (dE P w) a vs:=
 show du P w H h a .bD from K6 ok e
theorem Fx {kvs:.cs}(ok:.e7)(e:H a=some .bD):kvs.length≤sizeLine/\(a == sysModules)=false/\∃vs,KV kvs vs/\h.DictOf (dE P w) a vs:=si ok (.inl e)
theorem sD {ks:List Key}(ok:.e7)(e:H a=some (.tup (ks.map kV))):(tupleKind (dE P w)).is h ks a:=by
 obtain⟨_,its,r,o,h1,h2,n,h3⟩:=(show du P w H h a (.tup (ks.map kV)) from ok a _ e)
 exact⟨o,its.toArray,n,h1,h2,h3,by simpa using vQ r⟩
theorem vD {kvs:.da}(ok:.e7)(e:Rd H a (.dT kvs)):kvs.length≤sizeLine/\(a == sysModules)=false /\
  ∃xs,KT H kvs xs/\h.DictOfH (tupleKind (dE P w)) a xs:=by
 obtain⟨z,y,xs,r,o,es,ep,h1,h2,h3,h4,h5⟩:=(show du P w H h a (.dT kvs) from K6 ok e)
 refine⟨z,y,xs,r,o,es,ep,h1,h2,h3,h4,fun x hx=>?_,h5⟩
 have all:∀{l:.da} {m:List .c5},KT H l m->∀x∈m,(tupleKind (dE P w)).is h x.1 x.2.1:=by
  intro l m q
  induction q with
  |nil=>intro x hx;exact nomatch hx
  |@cons p q ps qs hq t ih =>
   intro x hx
   rcases zan.mp hx with e | hx
   ·subst e
    exact sD ok (by rw [<- hq.1];exact hq.2.1)
   ·exact ih x hx
 exact all r x hx
theorem N2 {kvs:.da}(ok:.e7)(e:H a=some (.dT kvs)):kvs.length≤sizeLine/\(a == sysModules)=false /\
  ∃xs,KT H kvs xs/\h.DictOfH (tupleKind (dE P w)) a xs:=vD ok (.inl e)
end
def wz (H:Hp)(a:Addr)(y:V)(r:Option V):Prop:=
 (∃kvs k,Rd H a .bD/\y=kV k/\r=pX kvs k)\/∃kvs k b,Rd H a (.dT kvs)/\y=.ref b/\H b=some (.tup (k.map kV))/\r=pX kvs k
def E5 (H:Hp)(a:Addr)(y v:V)(H':Hp):Prop:=
 (∃kvs k,H a=some .bD/\y=kV k/\kvs.length<sizeLine/\H'=upd H a (.dK (putK kvs k v))) \/
 ∃kvs k b,H a=some (.dT kvs)/\y=.ref b/\H b=some (.tup (k.map kV))/\kvs.length<sizeLine/\H'=upd H a (.dT (putK kvs k v))
theorem wz.k {H:Hp}{a:Addr}{kvs:.cs}{k:Key}(e:H a=some .bD):wz H a (kV k) (pX kvs k):=.inl ⟨kvs,k,.inl e,rfl,rfl⟩
theorem E5.k {H:Hp}{a:Addr}{kvs:.cs}{k:Key}{v:V}(e:H a=some .bD)(hl:kvs.length<sizeLine):E5 H a (kV k) v (upd H a (.dK (putK kvs k v))):=.inl ⟨kvs,k,e,rfl,hl,rfl⟩
section
variable {X:Cx}{pins:.s}{σ:St}{H:Hp}{s:Shared}{a:Addr}{y v:V}{u r:Value}{o:Option V}{A:Around}{E:.m}
theorem Inv.big (I:.u):sysModules<s.heap.objs.size:=by
 have h:mainGlobals<s.heap.objs.size:=(I.mod.glob.keeps I.bk).lt
 exact zaR .f h
theorem D5 {Q:.m}(hu:A.units+1<cLine)(I:.u)(g:wz H a y .dw)(ry:RelV y u)(h:∀w' s',Inv X pins σ H s'->RelV v w'->Q w' s'):
  wpAny .q A (getItem (.c a) u) Q E s:=by
 rcases g with ⟨kvs,k,e,ey,l⟩ | ⟨kvs,k,b,e,ey,eb,l⟩
 ·subst ey
  obtain⟨z,hd,vs,rel,dd⟩:=si I.hok e
  obtain⟨w',hw,rw'⟩:=mL.some_of (v:=v) (o:=valueAt vs k) (by rw [l];exact rel.val k)
  exact wpAny_getItem_of (vS ry) dd.mapOf hw (h w' _ (I.tok _) rw')
 ·subst ey
  cases (show u=Value.ref b from ry)
  obtain⟨z,hd,xs,rel,dd⟩:=vD I.hok e
  obtain⟨w',hw,rw'⟩:=mL.some_of (v:=v) (o:=(atKey xs k).map (·.2)) (by rw [l];exact rel.val k)
  obtain⟨p,hp,hp2⟩:=Option.map_eq_some_iff.mp hw
  refine wpAny_getItem_heap (tupleKind_room_in1 hu) (sD I.hok eb) dd hp ?_
  rw [hp2]
  exact h w' _ (I.tok _) rw'
theorem NZ {Q:.m}(hu:A.units+1<cLine)(I:.u)(g:wz H a y o)(ry:RelV y u)(h:∀s',Inv X pins σ H s'->Q (.bool o.isSome) s'):
  wpAny .q A (compareOp .In u (.c a)) Q E s:=by
 rcases g with ⟨kvs,k,e,ey,l⟩ | ⟨kvs,k,b,e,ey,eb,l⟩
 ·subst ey
  obtain⟨z,hd,vs,rel,dd⟩:=si I.hok e
  refine wpAny_in_of (vS ry) hd dd.mapOf ?_
  rw [<- (rel.val k).isSome_eq,<- l]
  exact h _ (I.tok _)
 ·subst ey
  cases (show u=Value.ref b from ry)
  obtain⟨z,hd,xs,rel,dd⟩:=vD I.hok e
  refine wpAny_in_heap (tupleKind_room_in1 hu) (sD I.hok eb) hd dd ?_
  have q:=(rel.val k).isSome_eq
  rw [zbT] at q
  rw [<- q,<- l]
  exact h _ (I.tok _)
theorem IP {Q:.m}(hu:A.units+1<cLine)(I:.u)(g:wz H a y o)(ry:RelV y u)(h:∀s',Inv X pins σ H s'->Q (.bool (!o.isSome)) s'):
  wpAny .q A (compareOp .NotIn u (.c a)) Q E s:=by
 rcases g with ⟨kvs,k,e,ey,l⟩ | ⟨kvs,k,b,e,ey,eb,l⟩
 ·subst ey
  obtain⟨z,hd,vs,rel,dd⟩:=si I.hok e
  refine wpAny_notIn_of (vS ry) hd dd.mapOf ?_
  rw [<- (rel.val k).isSome_eq,<- l]
  exact h _ (I.tok _)
 ·subst ey
  cases (show u=Value.ref b from ry)
  obtain⟨z,hd,xs,rel,dd⟩:=vD I.hok e
  refine wpAny_notIn_heap (tupleKind_room_in1 hu) (sD I.hok eb) hd dd ?_
  have q:=(rel.val k).isSome_eq
  rw [zbT] at q
  rw [<- q,<- l]
  exact h _ (I.tok _)
theorem wV {h':Heap}{t':Nat}{ob:HO}(I:.u)(mu:NJ (H a))(hs:Heap.SameBut a s.heap h')(he:∃q,h'.get? a=some q)(new:du X.prog X.w (upd H a ob) h' a ob):
  Inv X pins σ (upd H a ob) { s with heap:=h',toks:=t' }:=
 I.write (x:=a) (e:=a) mu .cf (fun b q hb z=>(hs.2 b hb).trans z) he new
theorem Fw {P:.am}{w:World}{H':Hp}{h':Heap}{kvs:.cs}{vs:List (Key×Value)}(z:kvs.length≤sizeLine)(hd:(a == sysModules)=false)(rel:KV kvs vs)(dd:h'.DictOf (dE P w) a vs):
  du P w H' h' a .bD:=⟨z,hd,vs,rel,dd⟩
theorem D6 {H':Hp}{Q:.dR}(hu:A.units+1<cLine)(I:.u)(g:E5 H a y v H')(ry:RelV y u)(rv:RelV v r)(h:∀s',Inv X pins σ H' s'->Q () s'):
  wpAny .q A (setItem (.c a) u r) Q E s:=by
 rcases g with ⟨kvs,k,e,ey,l,eH⟩ | ⟨kvs,k,b,e,ey,eb,l,eH⟩
 ·subst ey eH
  obtain⟨z,hd,vs,rel,dd⟩:=Fx I.hok e
  have hz:vs.length≤sizeLine:=by rw [<- rel.length];exact z
  have hl:(putK kvs k v).length≤sizeLine:=by have:=lL kvs k v;omega
  refine wpAny_setItem_pairs (hsz:=hz) (vS ry) dd fun h' dd' hs=>h _ ?_
  have he:∃q,h'.get? a=some q:=let ⟨q,_,_,hq,_⟩:=dd';⟨q,hq⟩
  exact wV I .fF hs he (Fw hl hd (rel.put k rv) dd')
 ·subst ey eH
  cases (show u=Value.ref b from ry)
  obtain⟨z,hd,xs,rel,dd⟩:=N2 I.hok e
  have hz:xs.length≤sizeLine:=by rw [<- Paired.length rel];exact z
  have hl:(putK kvs k v).length≤sizeLine:=by have:=lL kvs k v;omega
  refine wpAny_setItem_heap (hsz:=hz) (tupleKind_room_in1 hu) (sD I.hok eb) dd fun h' dd' hs=>h _ ?_
  obtain⟨q,es,ep,hq,h2,h3,h4,_,h5⟩:=dd'
  refine wV I .fF hs ⟨q,hq⟩ ⟨hl,hd,_,(rel.put k eb rv).keeps fun c ys ec=>?_,q,es,ep,hq,h2,h3,h4,h5⟩
  rw [aE (OH ec e .bo)]
  exact ec
end
section
variable {X:Cx}{pins:.s}{σ:St}{H:Hp}{s:Shared}{a:Addr}{kvs:.cs}{k:Key}{u:Value}{A:Around}{E:.m}
theorem N0 {Q:.m}(I:.u)(e:Rd H a .bD)(h:∀t s',Inv X pins σ H s'->Q (.int kvs.length t) s'):wpAny .q A (call (.builtin "len") [.ref a]) Q E s:=by
 obtain⟨z,hd,vs,rel,dd⟩:=si I.hok e
 refine call_len_dict hd dd (by rw [<- rel.length];rw [sizeLine_eq] at z;omega) ?_
 rw [<- rel.length]
 exact h _ _ (I.tok _)
end
def Lb (i:Expr):Prop:=∀ov iv,subscripted i false ov iv=operate [ov,iv] (getItem ov iv)
theorem Ki {prog:.am}{w:World}{A:Around}{E:.m}{s:Shared}{env:Env}{value slice:Expr}{pos:Pos}{T id:String}{Q:.m}
  (hl:typeLookup (.type T) "__getitem__" = pure (some .d0)) (hs:Lb slice)
  (h:wpAny .M A (eval value env) (fun o s₁=>wpAny .M A (eval slice env) (fun i s₂=>s₂.TypeIs o T/\wpAny .M A (getItem o i) Q E s₂) E s₁) E s):
  wpAny .M A (eval (.U value slice) env) Q E s:=by
 refine Subscript_ (wpAny_mono h (fun o s₁ h₁=>wpAny_mono h₁ (fun i s₂ h₂=>?_) fun _ _ x=>x) fun _ _ x=>x)
 obtain⟨hT,h₂⟩:=h₂
 unfold subscriptTail
 refine wpAny_bind ?_
 rw [getitemInPython_of_ne hT.not_modules]
 refine wpAny_bind (wpAny_specialOf hT hl ?_)
 have fin:wpAny .M A (subscripted slice false o i) (fun r s₃=>wpAny .M A (letTemporaryGo value o r >>= fun _=>pure r) Q E s₃) E s₂:=by
  rw [hs o i]
  exact wpAny_operating (wpAny_mono h₂ (fun r s₃ h₃=>wpAny_bind (wpAny_letTemporaryGo (.V h₃))) fun _ _ x=>x)
 first
  |exact wpAny_pure (.u fin)
  |exact wpAny_bind (.V (.u fin))
  |exact wpAny_bind fin
theorem yU {X:Cx}{pins:.s}{σ:St}{H:Hp}{s:Shared}{a:Addr}{y:V}{o:Option V}(I:.u)(g:wz H a y o):s.TypeIs (.c a) "dict" := by
 rcases g with ⟨kvs,k,e,_,_⟩ | ⟨kvs,k,b,e,_,_,_⟩
 ·obtain⟨_,_,vs,_,dd⟩:=si I.hok e
  exact dd.typeIs
 ·obtain⟨_,_,xs,_,dd⟩:=vD I.hok e
  exact dd.typeIs
def Pc (td ty:TE):TE:=fun σ H Q=>td σ H fun x H1=>ty σ H1 fun y H2=>∃a v,x=.ref a/\wz H2 a y .dw/\Q v H2
def Rm (ty td:TE):TE:=fun σ H Q=>ty σ H fun y H1=>td σ H1 fun x H2=>∃a o,x=.ref a/\wz H2 a y o/\Q (.bl o.isSome) H2
def O5 (td ty tv:TE):TS:=fun D σ H=>tv σ H fun v H1=>td σ H1 fun x H2=>ty σ H2 fun y H3=>∃a H4,x=.ref a/\E5 H3 a y v H4/\D.nx σ H4
section
variable {X:Cx}{o i e value:Expr}{pos pos' tpos:Pos}{td ty tv:TE}
theorem JP (hu:X.A.units+1<cLine)(ho:PE X o td)(hi:PE X i ty)(hs:Lb i):PE X (.U o i) (Pc td ty):=by
 intro pins s σ H Q I h
 refine Ki PySem.F.slot_dict_getitem.lookup hs (cR (ho pins s σ H _ I h) fun u s1 ⟨x,H1,I1,rx,q1⟩=>cR (hi pins s1 σ H1 _ I1 q1) fun iv s2 ⟨y,H2,I2,ry,a,v,ex,g,q2⟩=>?_)
 subst ex
 obtain rfl:u=Value.ref a:=rx
 exact⟨yU I2 g,D5 hu I2 g ry fun w' s3 I3 rw'=>⟨v,H2,I3,rw',q2⟩⟩
theorem Md (hu:X.A.units+1<cLine)(hi:PE X i ty)(ho:PE X o td):PC X .In i o (Rm ty td):=by
 intro pins s σ H Q I h
 refine cR (hi pins s σ H _ I h) fun iv s1 ⟨y,H1,I1,ry,q1⟩=>cR (ho pins s1 σ H1 _ I1 q1) fun u s2 ⟨x,H2,I2,rx,a,ov,ex,g,q2⟩=>?_
 subst ex
 obtain rfl:u=Value.ref a:=rx
 exact NZ hu I2 g ry fun s3 I3=>⟨.bl ov.isSome,H2,I3,rfl,q2⟩
theorem JX (hu:X.A.units+1<cLine)(ho:PE X o td)(hi:PE X i ty)(hv:PE X value tv)(hs:swapsWith value (some (.Subscript o i pos')) pos.line X.env=pure false):
  PS X (.Assign [.Subscript o i pos'] value pos) (O5 td ty tv):=by
 intro pins s σ H D I h
 refine wpAny_Assign_Subscript (cR (hv pins s σ H _ I h) fun r s1 ⟨v,H1,I1,rv,q1⟩=>cR (ho pins s1 σ H1 _ I1 q1) fun u s2 ⟨x,H2,I2,rx,q2⟩=>cR (hi pins s2 σ H2 _ I2 q2) fun iv s3 ⟨y,H3,I3,ry,a,H4,ex,g,q3⟩=>?_) hs
 subst ex
 obtain rfl:u=Value.ref a:=rx
 exact D6 hu I3 g ry rv fun s4 I4=>⟨σ,H4,I4,q3⟩
end
theorem yV {P:.am}{w:World}{H:Hp}(h:Heap)(hb:sysModules<h.objs.size):du P w H (h.push { cls:=.type "dict", data:=.dict #[] }) h.objs.size (.dK []):=
 ⟨za6 _,beq_eq_false_iff_ne.mpr (Ne.symm (zaq hb)),[],.nil,Heap.DictOf.new h⟩
def MU:TE:=fun _ H Q=>∀p,H p=none->Q (.c p) (upd H p (.dK []))
section
variable {X:Cx}{pos:Pos}
theorem Hk:PE X (.Dict [] [] pos) MU:=fun pins s σ H Q I h =>
 wpAny_Dict_empty ⟨.ref s.heap.objs.size,_,I.laid (a:=s.heap.objs.size) (o:=.dK []) (t':=s.toks) (fun _ _ q=>Heap.get?_push_of_some _ q) .bU (yV s.heap I.big),rfl,h _ (I.hok.fresh .bU)⟩
end
def RY (H:Hp)(a:Addr):Prop:=(∃kvs,Rd H a .bD)\/∃kvs,Rd H a (.dT kvs)
theorem LL {X:Cx}{pins:.s}{σ:St}{H:Hp}{s:Shared}{a:Addr}(I:.u)(d:RY H a):
  s.TypeIs (.c a) "dict"/\(∀b,Value.ref a=.ref b->∃ob,s.heap.get? b=some ob/\ob.dict=none)/\(a == sysModules)=false:=by
 rcases d with ⟨kvs,e⟩ | ⟨kvs,e⟩
 ·obtain⟨_,hd,vs,_,dd⟩:=si I.hok e
  refine⟨dd.typeIs,fun b q=>?_,hd⟩
  cases q
  obtain⟨ob,_,_,h1,h2,_⟩:=dd
  exact⟨ob,h1,h2.2.1⟩
 ·obtain⟨_,hd,xs,_,dd⟩:=vD I.hok e
  refine⟨dd.typeIs,fun b q=>?_,hd⟩
  cases q
  obtain⟨ob,_,_,h1,h2,_⟩:=dd
  exact⟨ob,h1,h2.2.1⟩
section
variable {X:Cx}{pins:.s}{σ:St}{H:Hp}{s:Shared}{a:Addr}{y d:V}{u r:Value}{o:Option V}{A:Around}{E:.m}
end
section
variable {X:Cx}{o e f:Expr}{apos cpos:Pos}{td ty tx:TE}
end
section
variable {X:Cx}{pins:.s}{σ:St}{H:Hp}{s:Shared}{a:Addr}{kvs:.cs}{A:Around}{E:.m}
end
section
variable {X:Cx}{pins:.s}{σ:St}{H:Hp}{s:Shared}{a:Addr}{y:V}{u:Value}{A:Around}{E:.m}
end
end L2
namespace TM
open PySem PySem.Spec PyProof.Rows L2
def yT:List Str->List T->Str->Option T
 |n::ns,t::ts,x=>if n=x then some t else yT ns ts x
 |_,_,_=>none
def gT:List Str->Str->Bool
 |[],_=>false
 |n::ns,x=>if n=x then true else gT ns x
theorem Ih {K:.l}{F:Hp}{x:Str}{t:T}:∀{ns:.Y} {ts:List T} {vs:List V},aT K F ts vs->yT ns ts x=some t->∃y,pX (df ns vs) (.inr x)=some y/\Rep K F t y
 |[],_,_,_,e=>by cases e
 |_::_,[],_,_,e=>by cases e
 |n::ns,u::ts,vs,r,e=>by
  obtain⟨v,rr,rfl,h1,h2⟩:=r
  unfold yT at e
  split at e
  ·next h=>cases e;subst h;exact⟨v,my rfl,h1⟩
  ·next h =>
   obtain⟨y,k1,k2⟩:=Ih h2 e
   exact⟨y,by rw [df,mx (fun z=>h (by injection z))];exact k1,k2⟩
theorem xa {x:Str}:∀{ns:.Y} {vs:List V},vs.length=ns.length->(pX (df ns vs) (.inr x)).isSome=gT ns x
 |[],vs,_=>by
  cases vs with
  |nil=>rfl
  |cons v vs=>rfl
 |n::ns,[],h=>by cases h
 |n::ns,v::vs,h=>by
  unfold gT
  split
  ·next e=>subst e;rw [df,my rfl];rfl
  ·next e=>rw [df,mx (fun z=>e (by injection z))];exact xa .aC
section
variable {X:Cx}{d k:Expr}{pos:Pos}{fd fk:FE}
def fG:T->T->Option T
 | .dct ns ts,.str x=>yT ns ts x
 |_,_=>none
theorem Eb {p z t:T}(h:fG p z=some t):∃ns ts x,p=.dct ns ts/\z=.str x/\yT ns ts x=some t:=by
 unfold fG at h
 split at h
 ·exact⟨_,_,_,rfl,rfl,h⟩
 ·cases h
theorem gm (hu:.bE)(hd:SE X d fd)(hk:SE X k fk)(hs:Lb k):SE X (.U d k) (ar fG fd fk):=fun Y0 Y9=>PE.weak (JP .e (hd Y0 Y9) (hk Y0 Y9) hs) fun σ H Q hq__=>by
 obtain⟨F,τ,t,τ',E,e1,q⟩:=hq__
 obtain⟨⟨p,τ1⟩,e2,e1⟩:=bind_some e1
 obtain⟨⟨z,τ2⟩,e3,e1⟩:=bind_some e1
 obtain⟨u,e4,e1⟩:=bind_some e1
 cases e1
 obtain⟨ns,ts,x,rfl,rfl,e5⟩:=Eb e4
 refine⟨F,τ,_,τ1,E,e2,fun F1 H1 v1 E1 s1 r1=>⟨F1,τ1,_,_,E1,e3,fun F2 H2 v2 E2 s2 r2=>?_⟩⟩
 obtain⟨a,ob,vs,rfl,h1,h2,h3⟩:=Rep.mono s2 r1
 cases r2
 obtain⟨y,k1,k2⟩:=Ih h3 e5
 exact⟨a,y,rfl,.inl ⟨_,.inr x,.inr ⟨ob,E2.g.fh _ _ h1⟩,rfl,k1.symm⟩,q F2 H2 y E2 .bq k2⟩
def qu (neg:Bool):T->T->Option T
 | .str x,.dct ns _=>some (.bl (xor neg (gT ns x)))
 |_,_=>none
theorem zm {neg:Bool}{p z t:T}(h:qu neg z p=some t):∃ns ts x,p=.dct ns ts/\z=.str x/\t=.bl (xor neg (gT ns x)):=by
 unfold qu at h
 split at h
 ·cases h;exact⟨_,_,_,rfl,rfl,rfl⟩
 ·cases h
theorem Mb (hu:.bE):lr X (.X .In) (qu false):=fun pins s σ H x y v u Q I rx ry hq__=>by
 obtain⟨F,a,b,t,sm,r1,r2,e,q⟩:=hq__
 obtain⟨ns,ts,z,rfl,rfl,rfl⟩:=zm e
 cases r1
 obtain⟨p,ob,vs,rfl,h1,h2,h3⟩:=r2
 cases ry
 refine NZ .e I (.inl ⟨_,.inr z,.inr ⟨ob,sm _ _ h1⟩,rfl,rfl⟩) rx fun s' I'=>⟨.bl _,H,I',rfl,?_⟩
 refine q F H _ .ak ?_
 rw [xa h2,Bool.false_xor]
 rfl
theorem EB (hu:.bE):lr X (compareOp .NotIn) (qu true):=fun pins s σ H x y v u Q I rx ry hq__=>by
 obtain⟨F,a,b,t,sm,r1,r2,e,q⟩:=hq__
 obtain⟨ns,ts,z,rfl,rfl,rfl⟩:=zm e
 cases r1
 obtain⟨p,ob,vs,rfl,h1,h2,h3⟩:=r2
 cases ry
 refine IP .e I (.inl ⟨_,.inr z,.inr ⟨ob,sm _ _ h1⟩,rfl,rfl⟩) rx fun s' I'=>⟨.bl _,H,I',rfl,?_⟩
 refine q F H _ .ak ?_
 rw [xa h2,Bool.true_xor]
 rfl
def vB:List T->Option T
 |[.dct ns _]=>some (.int ns.length)
 |ts=>cn ts
theorem lK:∀{ns:.Y} {vs:List V},vs.length=ns.length->(df ns vs).length=ns.length
 |[],[],_=>rfl
 |_::_,[],h=>by cases h
 |[],_::_,h=>by cases h
 |n::ns,v::vs,h=>by
  rw [df,List.length_cons,List.length_cons,lK .aC]
theorem DW:gb X (.builtin "len") (fun xs H Q=>∃a kvs,xs=[.ref a]/\Rd H a .bD/\Q (.int kvs.length) H):=by
 intro pins s σ H xs us Q I r h
 obtain⟨p,kvs,rfl,hq,q⟩:=h
 obtain⟨u,rfl,rx⟩:=vals1 r
 cases rx
 exact N0 I hq fun t s' I'=>⟨.int kvs.length,H,I',⟨t,rfl⟩,q⟩
theorem ID:gy X (.builtin "len") vB:=fun pins s σ H xs us Q I rx hq__=>by
 obtain⟨F,ts,t,sm,r,e,q⟩:=hq__
 unfold vB at e
 split at e
 ·next ns us' =>
  cases e
  obtain⟨v,rr,rfl,⟨a,ob,vs,rfl,h1,h2,h3⟩,rfl⟩:=r
  refine DW pins s σ H _ us Q I rx ⟨a,_,rfl,.inr ⟨ob,sm _ _ h1⟩,?_⟩
  rw [lK h2]
  exact q F H _ .ak rfl
 ·exact dw pins s σ H xs us Q I rx ⟨F,ts,t,sm,r,e,q⟩
end
end TM
namespace L2
open PySem PySem.Spec PyProof.Rows
section
variable {X:Cx}{pins:.s}{σ:St}{H:Hp}{s:Shared}{p:Addr}{kvs:.cs}
theorem Inv.freeze (I:.u)(e:H p=some .bD):∃o,Inv X pins σ (upd H p .eK) s:=by
 have q:=I.hok p _ e
 obtain⟨z,hd,vs,rel,dd⟩:=Fx I.hok e
 obtain⟨o,es,ep,ho,r⟩:=id dd
 have ne:∀b u,H b=some u->(∀kvs,u≠.dK kvs)->b≠p:=fun b u eb n z=>by
  subst z;rw [e] at eb;cases eb;exact n _ rfl
 have keepT:∀b xs,H b=some .eJ->upd H p .eK b=some .eJ:=fun b xs eb=>by rw [aE (ne b _ eb fun _ z=>by cases z)];exact eb
 have hok:ly X.prog X.w (upd H p .eK) s.heap:=fun b u eb=>by
  by_cases hb:b=p
  ·subst hb
   rw [aQ] at eb;cases eb
   exact⟨ho,q.stay (fun _ _ _ k=>k) (fun c k=>by rw [aE (ne c _ k fun _ z=>by cases z)];exact k) keepT⟩
  ·rw [aE hb] at eb
   exact (I.hok b u eb).stay (fun _ _ _ k=>k) (fun c k=>by rw [aE (ne c _ k fun _ z=>by cases z)];exact k) keepT
 refine⟨o,I.step (g':=s.gens) (d':=s.drawn) (t':=s.toks) (h':=s.heap) (ch:=[]) (fun b hb=>nomatch hb) (fun b o _ _ _ k _=>k) (fun b o _ _ _ k _=>⟨o.slots,k⟩) (fun b o _ k n=>?_) (fun b o _ k=>⟨o,k⟩) keepT (fun b o' u eb=>?_) (fun b ps eb=>⟨#[],?_⟩) (fun m hm=>hm) hok I.bare⟩
 ·rw [aE (fun z=>by subst z;rw [e] at n;cases n)];exact n
 ·rw [aE (ne b _ eb fun _ z=>by cases z)];exact eb
 ·rw [aE (ne b _ eb fun _ z=>by cases z),eb];simp
end
theorem J3 {P:.am}{w:World}{k:Key}{u:Value}(h:(dE P w).is k u=true):RelV (kV k) u:=by
 cases k with
 |inl i=>obtain⟨t,rfl⟩:=Value.isInt_shape (show Value.isInt i u=true from h);exact⟨t,rfl⟩
 |inr x=>obtain⟨t,rfl⟩:=Value.isStrOf_shape (show Value.isStrOf x u=true from h);exact⟨t,rfl⟩
theorem Bl {X:Cx}{pins:.s}{σ:St}{H:Hp}{s:Shared}{d:Addr}{o:Obj}{kvs:.cs}{es:Array DictEntry}{ep:Nat}(I:.u)(e:H d=some .eK)(ho:o.data=.dict es ep):
  ∃vs,KV kvs vs/\s.heap.DictAt (dE X.prog X.w) d vs ep:=by
 obtain⟨h1,h2⟩:=I.hok d _ e
 obtain⟨z,hd,vs,rel,o',es',ep',k1,k2,k3,k4⟩:=h2
 rw [h1] at k1;cases k1
 rw [ho] at k3;cases k3
 exact⟨vs,rel,o,es,h1,k2,ho,k4⟩
section
variable {X:Cx}{tg l:Expr}
end
theorem KV.at {kvs:.cs}{vs:List (Key×Value)}(r:KV kvs vs):∀{i:Nat} {k:Key} {v:Value},vs[i]? = some (k,v)->∃kv,kvs[i]? = some kv/\kv.1=k/\RelV kv.2 v:=by
 induction r with
 |nil=>intro i k v e;cases i<;>cases e
 |cons h t ih =>
  intro i k v e
  cases i with
  |zero=>cases e;exact⟨_,rfl,h.1,h.2⟩
  |succ i=>exact ih (by simpa using e)
theorem gY:entryFor table "dict_itemiterator.__iter__" = some Builtin.«dict_keyiterator.__iter__»:=
 entryFor_alias (id' := "dict_keyiterator.__iter__") .a rfl .c .a
def Qs (d:Addr)(o:Obj)(kvs:.cs):It:=
 ⟨fun i H=>H d=some .eK/\i<kvs.length,fun i H x H'=>∃p kv,x=.ref p/\H p=none/\kvs[i]? = some kv/\H'=upd H p (.tup [kV kv.1,kv.2]),fun i H=>H d=some .eK/\i=kvs.length⟩
theorem B4 {P:.am}{w:World}{K:.l}{elts:.az}{kx:Nat}{px:Pos}(it d:Addr)(o:Obj)(es:Array DictEntry)(ep:Nat)(ho:o.data=.dict es ep)(kvs:.cs):
  Turn P w K .ep (Qs d o kvs) [it] it (fun i h=>∃ok ov,IsItemIter h it d i kvs.length ep ok ov) where
 mem:=.h
 obj:=fun i h st b hb=>by
  have e:b=it:=by simpa using hb
  subst e
  obtain⟨ok,ov,st⟩:=st
  exact⟨_,st,fun v q=>nomatch (show Data.fields _=Data.cell v from q)⟩
 keep:=fun i h h' st k=>by obtain⟨ok,ov,st⟩:=st;exact⟨ok,ov,k it .h _ st⟩
 item:=by
  intro X hP hw hK hc i pins s σ H E I hf st hg
  subst hP hw hK
  obtain⟨f0,f1,f2,f3,f4,f5⟩:=hf it .h
  obtain⟨e,hi⟩:=hg
  obtain⟨vs,rel,dd⟩:=Bl I e ho
  have hlen:=rel.length
  obtain⟨ok,ov,st⟩:=st
  obtain⟨⟨k,v⟩,hx⟩:∃p,vs[i]? = some p:=⟨vs[i],.h⟩
  obtain⟨kv,hkv,rfl,rv⟩:=rel.at hx
  rw [hlen] at st
  refine wpAny_pyNext_items_item st dd hx fun key h' hkey a1 a2 a3 a4=>⟨_,rfl,?_⟩
  refine wpAny_letOwnedTupleGo_items (s:={ s with heap:=h' }) a1 fun h2 b1 b2=>?_
  have kp:∀b o,b∉[it]->s.heap.get? b=some o->h2.get? b=some o:=fun b o hb e=>by
   have hb':b≠it:=by simpa using hb
   exact b2.extBut _ _ hb' (a4 b o hb' e)
  have lz:it<s.heap.objs.size:=Heap.lt_size st
  have pr:h2.get? s.heap.objs.size=some { cls:=.type "tuple", data:=.seq #[key,v] }:=b2.extBut _ _ (zaU lz) a2
  have fr:H s.heap.objs.size=none:=I.hok.fresh .bU
  have hokA:ly X.prog X.w (.z (.tup [kV kv.1,kv.2])) h2:=by
   intro c o e
   by_cases hcz:c=s.heap.objs.size
   ·subst hcz
    rw [aQ] at e;cases e
    exact⟨by show 2≤sizeLine;decide,[key,v],.cons (J3 hkey) (.aq rv),_,pr,rfl,_,rfl⟩
   ·rw [aE hcz] at e
    have nf:∀d o',H d=some o'->d∉[it]:=fun d o' ed hd=>by rw [(hf d hd).1] at ed;cases ed
    have up:∀d o',H d=some o'->upd H s.heap.objs.size (.tup [kV kv.1,kv.2]) d=some o':=fun d o' ed=>by rw [aE (bx ed fr)];exact ed
    refine (I.hok c o e).stay (fun d v' hd q=>kp d v' ?_ q) (fun d q=>up d _ q) fun d xs q=>up d _ q
    rcases hd with rfl | hd
    ·exact nf _ o e
    ·exact nf d _ hd
  have J:Inv X pins σ (.z (.tup [kV kv.1,kv.2])) { s with heap:=h2 }:=by
   have ne:∀b o,s.heap.get? b=some o->b≠s.heap.objs.size:=fun b o e=>zaq .aF
   refine I.step (g':=s.gens) (d':=s.drawn) (t':=s.toks) (ch:=[it]) (fun b hb=>?_) (fun b o _ _ hc e _=>kp b o hc e) .eP (fun b o _ e n=>by rw [aE (ne b o e)];exact n)
    (fun b o hc e=>⟨o,kp b o hc e⟩) (fun b xs e=>by rw [aE (bx e fr)];exact e) (fun b o u e=>by rw [aE (bx e fr)];exact e) (fun b ps e=>⟨#[],by rw [aE (bx e fr),e];simp⟩) (fun m hm=>?_) hokA I.bare
   ·obtain⟨_,f1,_,f3,f4,f5⟩:=hf b hb
    exact⟨f3,f1,f4,f5⟩
   ·obtain⟨o,es,ep,ho,r⟩:=hm
    exact⟨o,es,ep,kp _ o (fun q=>(hf _ q).2.1 rfl) ho,r⟩
  rw [<- hlen] at b1
  refine⟨.ref s.heap.objs.size,_,J,rfl,⟨_,kv,rfl,fr,hkv,rfl⟩,⟨_,_,b1⟩,fun b hb=>?_⟩
  have e:b=it:=by simpa using hb
  subst e
  rw [aE (zaq lz)]
  exact f0
 done:=by
  intro X hP hw hK hc i pins s σ H E I hf st hg
  subst hP hw hK
  obtain⟨f0,f1,f2,f3,f4,f5⟩:=hf it .h
  obtain⟨e,rfl⟩:=hg
  obtain⟨vs,rel,dd⟩:=Bl I e ho
  obtain⟨ok,ov,st⟩:=st
  have hlen:=rel.length
  rw [hlen] at st
  exact wpAny_pyNext_items_end .cX st dd .h fun h' kk=>⟨rfl,I.turned (t':=s.toks) (fun b o hb e=>kk b o hb e) f0 f1 f3 f4 f5⟩
 self:=fun A i s Q E st h=>by
  obtain⟨ok,ov,st⟩:=st
  have hT:s.TypeIs .fC "dict_itemiterator" := ⟨_,st,rfl⟩
  refine wpAny_pyIter_slot hT zbr (wpAny_call_entry zbr hT gY ?_ (PySem.F.args_dict_itemiterator_iter_1 _))
  show wpAny _ _ (ret .fC) _ _ s
  exact wpAny_pure ⟨_,rfl,"dict_itemiterator", _,hT,PySem.F.slot_dict_itemiterator_next.lookup,h⟩
section
variable {X:Cx}{l:Expr}{elts:.az}{kx:Nat}{px apos cpos:Pos}
def LJ (tl:TE):TI:=fun σ H R=>tl σ H fun x H1=>∃d o kvs,x=.ref d/\H1 d=some .eK/\R (Qs d o kvs) H1
theorem Hr {tl:TE}(hl:PE X l tl)(hbase:attributeBase l "items" X.env (.Q l)=eval l X.env:=by rfl)(hline:.em=true:=by rfl):PI X .ep (.Call (.Attribute l "items" apos) [] [] cpos) (LJ tl):=by
 intro pins s σ H R I h
 refine wpAny_Call_method0_late hbase hline (cR (hl pins s σ H _ I h) fun v s1 .aA=>?_)
 obtain⟨d,o,kvs,rfl,e,q⟩:=q1
 cases r1
 obtain⟨t1,t2,_⟩:=LL I1 (.inl ⟨kvs,.inr ⟨o,e⟩⟩)
 refine⟨"dict","dict.items", PySem.F.plainAttrs_dict,PySem.F.slot_dict_items,PySem.F.type_dict_items,t1,t2,Calls.callWith_builtin rfl (PySem.evalArgs_none ?_)⟩
 obtain⟨h1,z,hd,vs,rel,o',es,ep,k1,k2,k3,k4⟩:=I1.hok d _ e
 rw [h1] at k1;cases k1
 obtain⟨vs',rel',dd⟩:=Bl I1 e k3
 refine call_meetsIn PySem.F.slot_dict_items t1 PySem.F.entry_dict_items (PySem.F.args_dict_items_1 _) (meets_dict_items (dE X.prog X.w) d hd) ⟨⟨vs',dd.dictOf⟩,?_⟩
 refine wpAny_pyIter_items (v:=s1.heap.objs.size) .aZ (dd.push _) ?_
 rw [<- rel'.length]
 have J:=I1.kept (t':=s1.toks) (h':=(s1.heap.push { cls:=.type "dict_items", data:=.fields #[.ref d] }).push { cls:=.type "dict_itemiterator", data:=.fields #[.none,.bool false,.ref d,.int 0 0,.int kvs.length 0,.int ep 0,.none,.none] }) fun b o e=>Heap.get?_push_of_some _ (.B e)
 refine⟨_,[_],_,_,H1,rfl,J,B4 _ d o es ep k3 kvs,⟨_,_,Heap.get?_push_size _ rfl⟩,fun b hb=>?_,q⟩
 have e:b=(s1.heap.push { cls:=.type "dict_items", data:=.fields #[.ref d] }).objs.size:=by simpa using hb
 subst e
 have hz:s1.heap.objs.size≤(s1.heap.push { cls:=.type "dict_items", data:=.fields #[.ref d] }).objs.size:=by rw [Heap.size_push];omega
 exact I1.fpOk hz (I1.hok.fresh hz)
end
end L2
namespace TM
open PySem PySem.Spec PyProof.Rows L2
theorem GJ {K:.l}{F:Hp}:∀{ns:.Y} {ts:List T} {vs:List V} {i:Nat} {kv:Key×V},aT K F ts vs->vs.length=ns.length->(df ns vs)[i]? = some kv->∃n t,ns[i]? = some n/\ts[i]? = some t/\kv.1=.inr n/\Rep K F t kv.2
 |[],_,vs,i,kv,_,h,e=>by cases vs with | nil=>simp [df] at e | cons v vs=>cases h
 |n::ns,ts,[],i,kv,_,h,e=>by cases h
 |n::ns,[],v::vs,i,kv,r,h,e=>by cases r
 |n::ns,t::ts,v::vs,0,kv,r,h,e=>by
  obtain⟨v',rr,z,h1,h2⟩:=r
  cases z
  simp [df] at e
  subst e
  exact⟨n,t,rfl,rfl,rfl,h1⟩
 |n::ns,t::ts,v::vs,i+1,kv,r,h,e=>by
  obtain⟨v',rr,z,h1,h2⟩:=r
  cases z
  obtain⟨m,u,k1,k2,k3,k4⟩:=GJ (i:=i) h2 .aC (by simpa [df] using e)
  exact⟨m,u,by simpa using k1,by simpa using k2,k3,k4⟩
def gi:List Str->List T->List T
 |n::ns,t::ts=>.tup [.str n,t]::gi ns ts
 |_,_=>[]
theorem tm:∀{ns:.Y} {ts:List T} {i:Nat} {u:T},(gi ns ts)[i]? = some u->∃n t,ns[i]? = some n/\ts[i]? = some t/\u=.tup [.str n,t]
 |[],_,i,u,e=>by simp [gi] at e
 |_::_,[],i,u,e=>by simp [gi] at e
 |n::ns,t::ts,0,u,e=>by simp [gi] at e;exact⟨n,t,rfl,rfl,e.symm⟩
 |n::ns,t::ts,i+1,u,e=>by
  obtain⟨m,v,k1,k2,k3⟩:=tm (i:=i) (by simpa [gi] using e)
  exact⟨m,v,by simpa using k1,by simpa using k2,k3⟩
theorem nJ:∀{ns:.Y} {ts:List T},ts.length=ns.length->(gi ns ts).length=ns.length
 |[],[],_=>rfl
 |_::_,[],h=>by cases h
 |[],_::_,h=>by cases h
 |n::ns,t::ts,h=>by rw [gi,List.length_cons,List.length_cons,nJ .aC]
theorem AM {K:.l}{F:Hp}{d:Addr}{o:Obj}{ns:.Y}{ts:List T}{vs:List V}(e:F d=some (.frz o (.dK (df ns vs))))(hl:vs.length=ns.length)(r:aT K F ts vs):TM.Walks K F (gi ns ts) (Qs d o (df ns vs)):=by
 have ht:ts.length=ns.length:=by rw [<- hl,r.length]
 refine⟨fun i t F1 H1 h s1 s2=>⟨s2 _ _ (s1 _ _ e),?_⟩,fun i t F1 H1 v H2 h s1 s2 y=>?_,fun F1 H1 s1 s2=>⟨s2 _ _ (s1 _ _ e),?_⟩⟩
 ·rw [lK hl,<- nJ ht]
  exact (zas.mp h).1
 ·obtain⟨p,kv,rfl,hp,h1,rfl⟩:=y
  obtain⟨n,u,k1,k2,k3,k4⟩:=GJ r hl h1
  obtain⟨n',u',j1,j2,rfl⟩:=tm h
  rw [k1] at j1;cases j1
  rw [k2] at j2;cases j2
  have gr:=bw.new (.tup [kV kv.1,kv.2]) s2 hp
  refine⟨_,gr,p,_,rfl,mM.of aQ,_,[_],rfl,?_,_,[],rfl,Rep.mono (s1.trans gr.sF) k4,rfl⟩
  rw [k3]
  rfl
 ·rw [lK hl,nJ ht]
section
variable {X:Cx}{tg l:Expr}{f:FE}
def iZ (f:FE):FA:=fun τ=>(f τ).bind fun p=>match p.1 with | .dct ns ts=>some (gi ns ts,p.2) | _=>none
theorem AE {elts:.az}{kx:Nat}{px apos cpos:Pos}(h:SE X l f)(hbase:attributeBase l "items" X.env (.Q l)=eval l X.env:=by rfl)(hline:.em=true:=by rfl):SI X .ep (.Call (.Attribute l "items" apos) [] [] cpos) (iZ f):=fun Y0 Y9=>PI.weak (Hr .c3 hbase hline) fun σ H R hq__=>by
 obtain⟨F,τ,ts,τ',E,e1,q⟩:=hq__
 obtain⟨⟨p,τ1⟩,e2,e1⟩:=bind_some e1
 cases p with
 |dct ns us =>
  cases e1
  refine⟨F,τ,_,_,E,e2,fun F1 H1 v E1 s1 r1=>?_⟩
  obtain⟨a,ob,vs,rfl,h1,h2,h3⟩:=r1
  exact⟨a,ob,_,rfl,E1.g.fh _ _ h1,q F1 H1 _ E1 s1 (AM h1 h2 h3)⟩
 |_=>cases e1
end
section
variable {X:Cx}
theorem wt:∀(k:Nat) (ys:.Y),Vals (ys.map V.str) (strsFrom k ys)
 |_,[]=>.nil
 |k,y::ys=>.cons .aB (wt _ ys)
theorem wb {K:.l}{F:Hp}:∀ys:List Str,aT K F (ys.map T.str) (ys.map V.str)
 |[]=>rfl
 |y::ys=>⟨_,_,rfl,rfl,wb ys⟩
theorem A2 {prog:.am}{w:World}{A:Around}{E:.m}{s:Shared}{x y:Str}{t u:Tok}{Q:.m}(hy:(y.length == 0)=false)(hsz:x.length≤sizeLine)(hl:(Txt.split x y).length≤sizeLine)
  (h:∀us k,Vals ((Txt.split x y).map V.str) us->Q .b7 { s with heap:=s.heap.push { cls:=.type "list", data:=.seq us.toArray },toks:=k }):
  wpAny .M A (call (.builtin "str.split") [.str x t,.str y u]) Q E s:=by
 cases c1:(decide (x.length<y.length)||decide (Builtin.Str.strKind x<Builtin.Str.strKind y)) with
 |true =>
  have e:Txt.split x y=[x]:=by unfold Txt.split;rw [if_pos c1]
  rw [e] at h
  exact call_meets F.slot_str_split (typeIs_str _ _ _) F.entry_str_split (F.args_str_split_2 _ _) (meets_str_split_cannot_occur x y t u c1) (h [.str x t] _ (.aq .aB))
 |false =>
  cases c2:(Builtin.Str.occurrences x y 0 x.length (x.length+1)).isEmpty with
  |true =>
   have e:Txt.split x y=[x]:=by unfold Txt.split;rw [if_neg (by rw [c1];decide),if_pos c2]
   rw [e] at h
   exact call_meets F.slot_str_split (typeIs_str _ _ _) F.entry_str_split (F.args_str_split_2 _ _) (meets_str_split_not_found x y t u c1 hy c2) (h [.str x t] _ (.aq .aB))
  |false =>
   have e:Txt.split x y=Builtin.Str.partsBetween x (Builtin.Str.occurrences x y 0 x.length (x.length+1)) y.length:=by unfold Txt.split;rw [if_neg (by rw [c1];decide),if_neg (by rw [c2];decide)]
   rw [e] at h hl
   exact call_meets F.slot_str_split (typeIs_str _ _ _) F.entry_str_split (F.args_str_split_2 _ _) (meets_str_split_sep x y t u c1 hy c2 hsz hl) (h _ _ (wt _ _))
def hG:T->T->Option T
 | .str a,.str b=>if (b.length == 0)=false/\a.length≤sizeLine/\(Txt.split a b).length≤sizeLine then some (.lst ((Txt.split a b).map T.str)) else none
 |_,_=>none
theorem zT:Ks X "str.split" hG:=by
 intro pins s σ H x vs v us Q I rx rv ⟨y,hvs,F,a,b,t,sm,ra,rb,e,q⟩
 subst hvs
 obtain⟨u1,rfl,r1⟩:=Vals.one rv
 unfold hG at e
 split at e
 ·next _ _ x0 y0 =>
  split at e
  ·next hl =>
   cases e;cases ra;cases rb
   obtain⟨t1,rfl⟩:=rx
   obtain⟨t2,rfl⟩:=r1
   refine A2 hl.1 hl.2.1 hl.2.2 fun us k hv=>?_
   have hf:H s.heap.objs.size=none:=I.fresh
   have gr:=bw.new (.lst ((Txt.split x0 y0).map V.str)) sm hf
   refine⟨.ref s.heap.objs.size,_,I.laid (t':=k) (o:=.lst ((Txt.split x0 y0).map V.str)) .dD .bU ?_,rfl,q _ _ _ gr ⟨_,_,rfl,aQ,wb _⟩⟩
   exact⟨by rw [zah];exact hl.2.2,us,0,hv,Heap.get?_push_size _ rfl⟩
  ·cases e
 ·cases e
theorem zr:∀a b t,hG a b=some t->∃x,a=.str x:=fun a b t h=>by
 unfold hG at h
 split at h
 ·exact⟨_,rfl⟩
 ·cases h
def Ip:T->T->Option T
 | .str a,.str b=>some (.bl (Txt.startswith a b))
 |_,_=>none
theorem OD:Ks X "str.startswith" Ip:=by
 intro pins s σ H x vs v us Q I rx rv ⟨y,hvs,F,a,b,t,sm,ra,rb,e,q⟩
 subst hvs
 obtain⟨u1,rfl,r1⟩:=Vals.one rv
 unfold Ip at e
 split at e
 ·cases e;cases ra;cases rb
  obtain⟨t1,rfl⟩:=rx
  obtain⟨t2,rfl⟩:=r1
  exact SC.startswith ⟨.bl _,H,I,rfl,q F H _ .ak rfl⟩
 ·cases e
theorem Oj:∀a b t,Ip a b=some t->∃x,a=.str x:=fun a b t h=>by
 unfold Ip at h
 split at h
 ·exact⟨_,rfl⟩
 ·cases h
def vg (f:FE):FE:=fun τ=>(f τ).bind fun p=>match p.1 with
 | .str x=>if x.length≤sizeLine then some (.str x,p.2) else none
 |_=>none
theorem nU {e:Expr}{f:FE}{p:Pos}(h:SE X e f):SE X (.FormattedValue e (-1) none p) (vg f):=fun Y0 Y9 pins s σ H Q I hq__=>by
 obtain⟨F,τ,t,τ',E,e1,q⟩:=hq__
 obtain⟨⟨u,τ1⟩,e2,e1⟩:=bind_some e1
 cases u with
 |str x =>
  dsimp only at e1
  split at e1
  ·next hl =>
   cases e1
   refine FormattedValue_plain (cR (h Y0 Y9 pins s σ H (fun v H'=>v=.str x/\Q v H') I ⟨F,τ,_,_,E,e2,fun F' H' v E' s' r=>⟨r,q F' H' v E' s' r⟩⟩) fun v s1 ⟨y,H1,I1,r1,q1,q2⟩=>?_)
   subst q1
   obtain⟨t1,rfl⟩:=r1
   exact formatField_str (fun t' k=>⟨.str x,H1,I1.tok _,.aB,q2⟩) hl
  ·cases e1
 |_=>cases e1
def qt:List FE->Str->aD->Option (Str×aD)
 |[],out,τ=>some (out,τ)
 |f::fs,out,τ=>(f τ).bind fun p=>match p.1 with
  | .str x=>if (out++x).length≤sizeLine then qt fs (out++x) p.2 else none
  |_=>none
def SJ (X:Cx)(es:.az)(fs:List FE):Prop:=∀Y0 Y9 pins s σ H (Q:VK) F τ out r τ',Inv X pins σ H s->aJ X.K Y0 Y9 F H σ τ->out.length≤sizeLine->qt fs out τ=some (r,τ')->(∀F' H' v,aJ X.K Y0 Y9 F' H' σ τ'->aV F F'->Rep X.K F' (.str r) v->Q v H')->wpAny .q X.A (joinParts out (evalEach es X.env)) .bQ X.xe s
theorem yp:SJ X [] []:=fun Y0 Y9 pins s σ H Q F τ out r τ' I E hl e q=>by
 cases e
 exact joinParts_nilE (joinParts_nil ⟨.str _,H,I.tok _,.aB,q F H _ E (aV.refl F) rfl⟩ hl)
theorem eM {e:Expr}{es:.az}{f:FE}{fs:List FE}(h:SE X e f)(hs:SJ X es fs):SJ X (e::es) (f::fs):=fun Y0 Y9 pins s σ H Q F τ out r τ' I E hl e1 q=>by
 obtain⟨⟨u,τ1⟩,e2,e1⟩:=bind_some e1
 cases u with
 |str x =>
  dsimp only at e1
  split at e1
  ·next hx =>
   refine joinParts_consE (joinParts_cons (cR (h Y0 Y9 pins s σ H (fun v H'=>v=.str x/\∃F',aJ X.K Y0 Y9 F' H' σ τ1/\aV F F') I ⟨F,τ,_,_,E,e2,fun F' H' v E' s' r=>⟨r,F',E',s'⟩⟩) fun v s1 ⟨y,H1,I1,r1,q1,F1,E1,s01⟩=>?_))
   subst q1
   obtain⟨t1,rfl⟩:=r1
   exact⟨hx,hs Y0 Y9 pins s1 σ H1 Q F1 τ1 _ r τ' I1 E1 hx e1 fun F' H' v E' s' r=>q F' H' v E' (s01.trans s') r⟩
  ·cases e1
 |_=>cases e1
def yZ (fs:List FE):FE:=fun τ=>(qt fs Str.empty τ).map fun p=>(.str p.1,p.2)
theorem qZ {e1 e2:Expr}{es:.az}{f1 f2:FE}{fs:List FE}{p:Pos}(h:SJ X (e1::e2::es) (f1::f2::fs)):SE X (.JoinedStr (e1::e2::es) p) (yZ (f1::f2::fs)):=fun Y0 Y9 pins s σ H Q I hq__=>by
 obtain⟨F,τ,t,τ',E,e,q⟩:=hq__
 unfold yZ at e
 cases k:qt (f1::f2::fs) Str.empty τ with
 |none=>rw [k] at e;cases e
 |some r =>
  rw [k] at e
  cases e
  exact JoinedStr_many (h Y0 Y9 pins s σ H Q F τ Str.empty r.1 r.2 I E .f k q)
end
theorem BX {prog:.am}{w:World}{A:Around}{E:.m}{s:Shared}{l:Addr}{items:.cK}{Q:List Value->Shared->Prop}(hh:A.handled=none)(hl:s.heap.IsList l items)(h1:1≤items.size)(hz:items.size≤sizeLine)
  (h:∀(h':Heap) (tk:Nat),(∀b o,s.heap.get? b=some o->h'.get? b=some o)->Q (items.toList.take 1++[.ref h'.objs.size]) { s with heap:=h'.push { cls:=.type "list", data:=.seq (items.toList.drop 1).toArray },toks:=tk }):
  wpAny .M A (unpackItems (.c l) 2 (some 1)) Q E s:=by
 have hlt:l≠s.heap.objs.size:=by obtain⟨o,ho,_⟩:=hl;exact zaq (Heap.lt_size ho)
 have hll:l<s.heap.objs.size:=by obtain⟨o,ho,_⟩:=hl;exact Heap.lt_size ho
 unfold unpackItems notIterableAtAll
 refine wpAny_bind (.u (wpAny_specialOf hl.typeIs F.slot_list_iter.lookup .b9))
 simp only [Bool.false_eq_true,if_false]
 refine wpAny_bind (wpAny_holding (wpAny_pyIter_list hl (wpAny_bind (wpAny_holding (W.kun_draw hlt 1 0 _ _ .aZ (hl.push _) .e fun h₁ hit₁ hs₁=>?_)))))
 have hl₁:=(hl.push { cls:=.type "list_iterator", data:=.fields #[.ref l,.int 0 0] }).extBut hs₁.extBut hlt
 have hoi:=hit₁
 obtain⟨oi,hoi,_⟩:=hoi
 have hol:=hl₁
 obtain⟨ol,hol,_⟩:=hol
 rw [List.drop_zero]
 have hfl:(items.toList.take 1).length=1:=by rw [za9,zbI];omega
 rw [if_neg .e]
 refine wpAny_bind (wpAny_holding (W.kun_collect (.inr (.inr .cf)) (Walks.list (A:=A.in1) hh s.heap.objs.size l hlt items) (fun j u st=>Heap.IsListIter.typeIs (And.left st)) h1 ⟨hit₁,hl₁⟩ (Heap.lt_size hoi) (Heap.lt_size hol) (fun h₂ tk hk=>?_) hz))
 have hrl:(items.toList.drop 1).length=items.size-1:=by rw [zbk,zbI]
 rw [if_neg .e,show 2-1-1=0 from rfl,Nat.sub_zero,zbY,zbq]
 refine wpAny_bind (wpAny_newList ?_)
 refine wpAny_pure ?_
 rw [zax]
 have kp:∀b o,s.heap.get? b=some o->h₂.get? b=some o:=fun b o e=>by
  have hb:b≠s.heap.objs.size:=zaq .aF
  exact hk b o hb (hs₁.extBut b o hb (.B e))
 exact h h₂ _ kp
section
variable {X:Cx}{e1 e2:Expr}{ps pos:Pos}
def w8 (gs:.bF):FG:=fun t τ=>match t with
 | .lst (a::ts)=>gs [a,.lst ts] τ
 |_=>none
theorem Ka {gs:.bF}{k:Nat}(hc:.bL)(h:Ld X [e1,e2] gs)(hm:(assignEach [e1,.Starred e2 ps] X.env).map (·.2)=(assignEach [e1,e2] X.env).map (·.2):=by rfl)
  (hn:(assignEach [e1,.Starred e2 ps] X.env).length=2:=by rfl) (hst:(assignEach [e1,.Starred e2 ps] X.env).findIdx? (·.1)=some 1:=by rfl):SG X (.Tuple [e1,.Starred e2 ps] k pos) (w8 gs):=fun Y0 Y9 pins s σ H v u Q I r h'=>by
 obtain⟨F,τ,t,τ',E,rt,e1,q⟩:=h'
 unfold w8 at e1
 split at e1
 ·next a ts =>
  obtain⟨p,xs,rfl,h1,v0,xs',rfl,h2,h3⟩:=rt
  cases r
  obtain⟨its,rv,ht,hz⟩:=I.list (gR.of (E.g.fh _ _ h1))
  cases rv with
  |@cons _ u0 _ us' r0 rs =>
   rw [assign_Tuple]
   refine wpAny_bind (wpAny_standAt ?_)
   unfold unpack
   rw [hst,hn,hm]
   refine wpAny_bind (wpAny_holding (BX .cX ht.isList .h (by rw [List.size_toArray];simpa [rs.length] using hz) fun h' tk k1=>?_))
   have hz':xs'.length≤sizeLine:=by have:=rs.length;simp at hz;omega
   have I2:=I.kept (t':=s.toks) k1
   have hf:H h'.objs.size=none:=I2.hok.fresh .bU
   have gr:=bw.new (.lst xs') E.g.fh hf
   have I1:=I2.laid (t':=tk) (o:=.lst xs') (fun b o e=>Heap.get?_push_of_some _ e) .bU ⟨hz',us',0,rs,Heap.get?_push_size _ rfl⟩
   exact h Y0 Y9 pins _ σ _ [v0,.ref h'.objs.size] _ Q I1 (.cons r0 (.aq rfl)) ⟨_,τ,[a,.lst ts],τ',E.grow gr,⟨_,_,rfl,Rep.mono gr.sF h2,_,_,rfl,⟨_,xs',rfl,aQ,aT.mono gr.sF h3⟩,rfl⟩,e1,fun F' H' σ' E' s'=>q F' H' σ' E' (gr.sF.trans s')⟩
 ·cases e1
end
abbrev DS:=List Str×List T
def putN:List Str->Str->List Str
 |[],k=>[k]
 |n::ns,k=>if n=k then n::ns else n::putN ns k
def lq {α:Type}:List Str->List α->Str->α->List α
 |n::ns,v::vs,k,w=>if n=k then w::vs else v::lq ns vs k w
 |_,_,_,w=>[w]
def DS.put (d:DS)(k:Str)(t:T):DS:=(putN d.1 k,lq d.1 d.2 k t)
theorem Fg {k:Str}:∀{ns:.Y} {vs:List V},vs.length=ns.length->((df ns vs).any fun kv=>decide (kv.1=Sum.inr k))=gT ns k
 |[],[],_=>rfl
 |[],_::_,h=>by cases h
 |n::ns,[],h=>by cases h
 |n::ns,v::vs,h=>by
  rw [df,List.any_cons,Fg .aC,gT]
  by_cases e:n=k
  ·subst e;simp
  ·rw [if_neg e]
   have:¬ ((Sum.inr n:Key)=Sum.inr k):=fun z=>e (by injection z)
   simp [this]
theorem vU {k:Str}{w:V}:∀{ns:.Y} {vs:List V},vs.length=ns.length->gT ns k=false->(df ns vs).map (fun kv=>if kv.1=Sum.inr k then (kv.1,w) else kv)=df ns vs
 |[],[],_,_=>rfl
 |[],_::_,h,_=>by cases h
 |n::ns,[],h,_=>by cases h
 |n::ns,v::vs,h,e=>by
  rw [gT] at e
  split at e
  ·cases e
  ·next hn =>
   have:¬ ((Sum.inr n:Key)=Sum.inr k):=fun z=>hn (by injection z)
   rw [df,List.map_cons,vU .aC e]
   simp [this]
theorem tq {α:Type}{k:Str}{w:α}:∀{ns:.Y} {vs:List α},vs.length=ns.length->(lq ns vs k w).length=(putN ns k).length
 |[],[],_=>rfl
 |[],_::_,h=>by cases h
 |n::ns,[],h=>by cases h
 |n::ns,v::vs,h=>by
  rw [lq,putN]
  split
  ·simpa using h
  ·rw [List.length_cons,List.length_cons,tq .aC]
theorem Fi {k:Str}{w:V}:∀{ns:.Y} {vs:List V},vs.length=ns.length->gT ns k=false->df ns vs++[(Sum.inr k,w)]=df (putN ns k) (lq ns vs k w)
 |[],[],_,_=>rfl
 |[],_::_,h,_=>by cases h
 |n::ns,[],h,_=>by cases h
 |n::ns,v::vs,h,e=>by
  rw [gT] at e
  split at e
  ·cases e
  ·next hn=>rw [df,List.cons_append,Fi .aC e,putN,lq,if_neg hn,if_neg hn,df]
theorem CN {k:Str}:∀{ns:.Y},gT ns k=true->k∈ns
 |[],e=>by cases e
 |n::ns,e=>by
  rw [gT] at e
  split at e
  ·next h=>subst h;exact zad
  ·exact zae _ (CN e)
theorem GQ {k:Str}{w:V}:∀{ns:.Y} {vs:List V},vs.length=ns.length->ns.Nodup->gT ns k=true->(df ns vs).map (fun kv=>if kv.1=Sum.inr k then (kv.1,w) else kv)=df (putN ns k) (lq ns vs k w)
 |[],_,_,_,e=>by cases e
 |n::ns,[],h,_,_=>by cases h
 |n::ns,v::vs,h,d,e=>by
  rw [gT] at e
  have hl:vs.length=ns.length:=by simpa using h
  rw [zbe] at d
  by_cases hn:n=k
  ·subst hn
   have hno:gT ns n=false:=by
    cases z:gT ns n with
    |false=>rfl
    |true=>exact absurd (CN z) d.1
   rw [putN,lq,if_pos rfl,if_pos rfl,df,zaf,vU hl hno,df]
   simp
  ·rw [if_neg hn] at e
   have:¬ ((Sum.inr n:Key)=Sum.inr k):=fun z=>hn (by injection z)
   rw [putN,lq,if_neg hn,if_neg hn,df,zaf,GQ hl d.2 e,df]
   simp [this]
theorem nL {k:Str}:∀{ns:.Y},ns.Nodup->(putN ns k).Nodup
 |[],_=>by simp [putN]
 |n::ns,d=>by
  rw [putN]
  split
  ·exact d
  ·next h =>
   rw [zbe] at d ⊢
   refine⟨fun m=>?_,nL d.2⟩
   have key:∀{ns:.Y},n∈putN ns k->n∈ns\/n=k:=fun {ns} m=>by
    induction ns with
    |nil=>exact .inr (by simpa [putN] using m)
    |cons a ns ih =>
     rw [putN] at m
     split at m
     ·exact .inl m
     ·rcases zan.mp m with m | m
      ·exact .inl (by rw [m];exact zad)
      ·exact (ih m).imp (zae _) id
   rcases key m with m | m
   ·exact d.1 m
   ·exact h m
theorem De {k:Str}{w:V}{ns:.Y}{vs:List V}(h:vs.length=ns.length)(d:ns.Nodup):putK (df ns vs) (Sum.inr k) w=df (putN ns k) (lq ns vs k w):=by
 unfold putK
 rw [Fg h]
 cases e:gT ns k with
 |true=>rw [if_pos rfl];exact GQ h d e
 |false=>rw [if_neg .f];exact Fi h e
theorem tu {K:.l}{F:Hp}{k:Str}{t:T}{w:V}(r:Rep K F t w):∀{ns:.Y} {ts:List T} {vs:List V},vs.length=ns.length->aT K F ts vs->aT K F (lq ns ts k t) (lq ns vs k w)
 |[],[],[],_,_=>⟨w,[],rfl,r,rfl⟩
 |[],_,_::_,h,_=>by cases h
 |[],_::_,[],_,z=>by obtain⟨_,_,z,_⟩:=z;cases z
 |n::ns,_,[],h,_=>by cases h
 |n::ns,[],_::_,_,z=>by cases z
 |n::ns,t'::ts,v::vs,h,z=>by
  obtain⟨v',r',e,h1,h2⟩:=z
  cases e
  rw [lq,lq]
  split
  ·exact⟨_,_,rfl,r,h2⟩
  ·exact⟨_,_,rfl,h1,tu r .aC h2⟩
structure yF (K:.l)(Y0 Y9 F H:Hp)(σ:L2.St)(τ:aD)(x:Nat)(p:Addr)(d:DS):Prop where
 E:aJ K Y0 Y9 F H σ τ
 hx:τ[x]? = some (.y (.ptr p))
 hp:∃vs,H p=some (.dK (df d.1 vs))/\vs.length=d.1.length/\aT K F d.2 vs
 nd:d.1.Nodup
 fp:F p=none
 h0:Y9 p=none
section
variable {K:.l}{Y0 Y9 F H F' H':Hp}{σ σ':L2.St}{τ τ':aD}{x:Nat}{p:Addr}{d:DS}
def lM (Y9 H:Hp)(p:Addr):Hp:=fun b=>if b=p then H p else Y9 b
theorem sG:lM Y9 H p p=H p:=if_pos rfl
theorem lN {b:Addr}(h:b≠p):lM Y9 H p b=Y9 b:=if_neg h
theorem yF.lend (D:.eF):aJ K Y0 (lM Y9 H p) F H σ τ:=by
 obtain⟨vs0,hp,_⟩:=D.hp
 refine⟨⟨D.E.g.sF,fun a o e=>?_,D.E.g.fh,fun a o e=>?_⟩,D.E.len,fun i s e=>?_,D.E.dj⟩
 ·by_cases m:a=p
  ·subst m;rw [sG] at e;exact e
  ·rw [lN m] at e;exact D.E.g.sH _ _ e
 ·have m:a≠p:=fun m=>by subst m;rw [D.fp] at e;cases e
  rcases D.E.g.nw a o e with z | z
  ·exact .inl z
  ·exact .inr (by rw [lN m];exact z)
 ·obtain⟨v,h1,h2⟩:=D.E.sl i s e
  refine⟨v,h1,?_⟩
  cases s with
  |sh t=>exact h2
  |own ts =>
   obtain⟨q,vs,rfl,k1,k2,k3,k4⟩:=h2
   exact⟨q,vs,rfl,k1,k2,by rw [lN fun z=>by subst z;rw [hp] at k1;cases k1];exact k3,k4⟩
theorem yF.back (D:.eF)(E':aJ K Y0 (lM Y9 H p) F' H' σ' τ')(s:aV F F')(hx:τ'[x]? = some (.y (.ptr p))):yF K Y0 Y9 F' H' σ' τ' x p d:=by
 obtain⟨vs0,hp,hl,hr⟩:=D.hp
 have out:∀{a:Addr},lM Y9 H p a=none->a≠p/\Y9 a=none:=fun {a} e=>by
  have m:a≠p:=fun m=>by subst m;rw [sG,hp] at e;cases e
  exact⟨m,by rw [lN m] at e;exact e⟩
 refine⟨⟨⟨E'.g.sF,fun a o e=>?_,E'.g.fh,fun a o e=>?_⟩,E'.len,fun i s e=>?_,E'.dj⟩,hx,⟨vs0,E'.g.sH _ _ (by rw [sG];exact hp),hl,aT.mono s hr⟩,D.nd,?_,D.h0⟩
 ·have m:a≠p:=fun m=>by subst m;rw [D.h0] at e;cases e
  exact E'.g.sH _ _ (by rw [lN m];exact e)
 ·rcases E'.g.nw a o e with z | z
  ·exact .inl z
  ·exact .inr (out z).2
 ·obtain⟨v,h1,h2⟩:=E'.sl i s e
  refine⟨v,h1,?_⟩
  cases s with
  |sh t=>exact h2
  |own ts =>
   obtain⟨q,vs,rfl,k1,k2,k3,k4⟩:=h2
   exact⟨q,vs,rfl,k1,k2,(out k3).2,k4⟩
 ·cases eF:F' p with
  |none=>rfl
  |some o =>
   rcases E'.g.nw p o eF with z | z
   ·have:=D.E.g.sF _ _ z
    rw [D.fp] at this;cases this
   ·exact absurd rfl (out z).1
theorem yF.grow (D:.eF)(g:bw F H F' H'):yF K Y0 Y9 F' H' σ τ x p d:=by
 obtain⟨vs0,hp,hl,hr⟩:=D.hp
 refine⟨D.E.grow g,D.hx,⟨vs0,g.sH _ _ hp,hl,aT.mono g.sF hr⟩,D.nd,?_,D.h0⟩
 cases eF:F' p with
 |none=>rfl
 |some o =>
  rcases g.nw p o eF with z | z
  ·rw [D.fp] at z;cases z
  ·rw [hp] at z;cases z
theorem yF.get (D:.eF):σ[x]? = Option.some (Option.some (.c p)):=by
 obtain⟨v,h1,h2⟩:=D.E.sl x _ D.hx
 have:v=.ref p:=h2
 rw [h1,this]
theorem yF.put (D:.eF){k:Str}{t:T}{w:V}(r:Rep K F t w):∃kvs,H p=some .bD/\kvs.length=d.1.length/\yF K Y0 Y9 F (upd H p (.dK (putK kvs (Sum.inr k) w))) σ τ x p (d.put k t):=by
 obtain⟨vs0,hp,hl,hr⟩:=D.hp
 refine⟨_,hp,lK hl,⟨⟨⟨D.E.g.sF,fun a o e=>?_,fun a o e=>?_,D.E.g.nw⟩,D.E.len,fun i s e=>?_,D.E.dj⟩,D.hx,⟨lq d.1 vs0 k w,?_,tq hl,tu r hl hr⟩,nL D.nd,D.fp,D.h0⟩⟩
 ·rw [aE (fun z=>by subst z;rw [D.h0] at e;cases e)];exact D.E.g.sH _ _ e
 ·rw [aE (fun z=>by subst z;rw [D.fp] at e;cases e)];exact D.E.g.fh _ _ e
 ·obtain⟨v,h1,h2⟩:=D.E.sl i s e
  refine⟨v,h1,?_⟩
  cases s with
  |sh t=>exact h2
  |own ts =>
   obtain⟨q,vs,rfl,k1,k2,k3,k4⟩:=h2
   exact⟨q,vs,rfl,by rw [aE (fun z=>by subst z;rw [hp] at k1;cases k1)];exact k1,k2,k3,k4⟩
 ·rw [aQ,De hl D.nd]
  rfl
end
abbrev FZ:=Addr->DS->aD->Option (DS×aD)
def tZ (K:.l)(Y0 Y9:Hp)(x:Nat)(f:FZ):TS:=fun D σ H=>∃F τ p d r,yF K Y0 Y9 F H σ τ x p d/\f p d τ=some r/\∀F' H' σ',yF K Y0 Y9 F' H' σ' r.2 x p r.1->aV F F'->D.nx σ' H'
def SZ (X:Cx)(x:Nat)(st:Stmt)(f:FZ):Prop:=∀Y0 Y9,PS X st (tZ X.K Y0 Y9 x f)
def Il (X:Cx)(x:Nat)(ss:.bG)(f:FZ):Prop:=∀Y0 Y9,mK X ss (tZ X.K Y0 Y9 x f)
section
variable {X:Cx}{e:Expr}{pos:Pos}{x:Nat}
def B9:FZ:=fun _ _ _=>none
theorem EL {ss:.bG}:Il X x ss B9:=fun Y0 Y9=>mK.weak EF fun D σ H ⟨F,τ,p,d,r,q,e1,k⟩=>by cases e1
def pj:FZ:=fun _ d τ=>some (d,τ)
def Ko (f g:FZ):FZ:=fun p d τ=>(f p d τ).bind fun r=>g p r.1 r.2
theorem yt:Il X x [] pj:=fun Y0 Y9=>mK.weak qU fun D σ H hq__=>by
 obtain⟨F,τ,p,d,r,q,e1,k⟩:=hq__
 cases e1
 exact k F H σ q .en
theorem rf {st:Stmt}{f:FZ}(h:SZ X x st f):Il X x [st] f:=fun Y0 Y9=>yb .c3
theorem HV {st:Stmt}{rest:.bG}{f g:FZ}(h1:SZ X x st f)(h2:Il X x rest g):Il X x (st::rest) (Ko f g):=fun Y0 Y9=>mK.weak (jQ (h1 Y0 Y9) (h2 Y0 Y9)) fun D σ H hq__=>by
 obtain⟨F,τ,p,d,r,q,e1,k⟩:=hq__
 obtain⟨r1,e2,e1⟩:=bind_some e1
 exact⟨F,τ,p,d,r1,q,e2,fun F1 H1 σ1 d1 s1=>⟨F1,r1.2,p,r1.1,r,d1,e1,fun F2 H2 σ2 d2 s2=>k F2 H2 σ2 d2 .bq⟩⟩
def La (x:Nat)(c:FT)(f g:FZ):FZ:=fun p d τ=>(c τ).bind fun q=>if mY x p q.2=true then (if q.1=true then f p d q.2 else g p d q.2) else none
theorem K8 {c:Expr}{ss us:.bG}{tc:FT}{f g:FZ}(hc:ST X c tc)(ha:Il X x ss f)(hb:Il X x us g):SZ X x (.If c ss us pos) (La x tc f g):=fun Y0 Y9=>PS.weak (Hu hc.any .b3 .dL) fun D σ H hq__=>by
 obtain⟨F,τ,p,d,r,q,e1,k⟩:=hq__
 obtain⟨⟨b,τ1⟩,e2,e1⟩:=bind_some e1
 dsimp only at e1
 split at e1
 ·next hp =>
  refine⟨Y0,lM Y9 H p,F,τ,b,τ1,q.lend,e2,fun F' H' E' s'=>?_⟩
  have d1:=q.back E' s' (jN hp)
  split at e1
  ·next h=>dsimp only;rw [if_pos h];exact⟨F',τ1,p,d,r,d1,e1,fun F2 H2 σ2 d2 s2=>k F2 H2 σ2 d2 (s'.trans s2)⟩
  ·next h=>dsimp only;rw [if_neg h];exact⟨F',τ1,p,d,r,d1,e1,fun F2 H2 σ2 d2 s2=>k F2 H2 σ2 d2 (s'.trans s2)⟩
 ·cases e1
def DI (x:Nat)(fk:FE)(f g:FZ):FZ:=fun p d τ=>(fk τ).bind fun q=>match q.1 with
 | .str k=>if mY x p q.2=true then (if gT d.1 k=true then f p d q.2 else g p d q.2) else none
 |_=>none
theorem Kj {nx:Str}{q1 pc:Pos}{ek:Expr}{ss us:.bG}{fk:FE}{f g:FZ}(hu:.bE)(hv:PE X (.Name nx q1) (yu x))(hk:SE X ek fk)(ha:Il X x ss f)(hb:Il X x us g)
  (hm:behindInMarks .In (.Name nx q1)=false:=by first | exact nobehind _ .f .f | rfl):SZ X x (.If (.Compare ek [.In] [.Name nx q1] pc) ss us pos) (DI x fk f g):=fun Y0 Y9=>PS.weak (Hu (MA (Md .e hk.any hv) hm) .b3 .dL) fun D σ H hq__=>by
 obtain⟨F,τ,p,d,r,q,e1,k⟩:=hq__
 obtain⟨⟨t,τ1⟩,e2,e1⟩:=bind_some e1
 cases t with
 |str y =>
  dsimp only at e1
  split at e1
  ·next hp =>
   refine⟨Y0,lM Y9 H p,F,τ,_,τ1,q.lend,e2,fun F' H' v E' s' rv=>?_⟩
   have d1:=q.back E' s' (jN hp)
   obtain⟨vs,h1,h2,h3⟩:=d1.hp
   cases rv
   refine⟨_,d1.get,p,_,rfl,wz.k (k:=.inr y) h1,_,rfl,?_⟩
   rw [xa h2]
   split at e1
   ·next h=>rw [if_pos h];exact⟨F',τ1,p,d,r,d1,e1,fun F2 H2 σ2 d2 s2=>k F2 H2 σ2 d2 (s'.trans s2)⟩
   ·next h=>rw [if_neg h];exact⟨F',τ1,p,d,r,d1,e1,fun F2 H2 σ2 d2 s2=>k F2 H2 σ2 d2 (s'.trans s2)⟩
  ·cases e1
 |_=>cases e1
def m6 (x:Nat)(fg:FG)(fb:FZ):List T->FZ
 |[],_,d,τ=>some (d,τ)
 |t::ts,p,d,τ=>(fg t τ).bind fun τ1=>if mY x p τ1=true then (fb p d τ1).bind fun r=>m6 x fg fb ts p r.1 r.2 else none
def AN (x:Nat)(fi:FA)(fg:FG)(fb:FZ):FZ:=fun p d τ=>(fi τ).bind fun q=>if mY x p q.2=true then m6 x fg fb q.1 p d q.2 else none
theorem HU {tg iter:Expr}{body:.bG}{fi:FA}{fg:FG}{fb:FZ}(hp:.ev)(hc:.bL)(hi:.dH)(hg:SG X tg fg)(hb:Il X x body fb)
  (hs:∀x,foldedSetIterable iter X.env x=pure x:=by intro _;rfl):SZ X x (.For tg iter body [] pos) (AN x fi fg fb):=fun Y0 Y9=>PS.weak (Ht hp hc hi.any hg.any .dL hs) fun D σ H hq__=>by
 obtain⟨F,τ,p,d,r,q0,e1,k⟩:=hq__
 obtain⟨⟨ts,τ1⟩,e2,e1⟩:=bind_some e1
 dsimp only at e1
 split at e1
 ·next hq =>
  refine⟨Y0,lM Y9 H p,F,τ,ts,τ1,q0.lend,e2,fun F' H' J E' s' W=>?_⟩
  have d1:=q0.back E' s' (jN hq)
  refine⟨fun i m σ H=>m=ts.length-i/\i≤ts.length/\∃F1 τ1 dd1,yF X.K Y0 Y9 F1 H σ τ1 x p dd1/\aV F' F1/\m6 x fg fb (ts.drop i) p dd1 τ1=some r,⟨_,rfl,za6 _,F',τ1,d,d1,aV.refl _,e1⟩,?_⟩
  rintro i m σ1 H1 ⟨rfl,hi,F1,τ2,dd1,D1,s1,e3⟩
  by_cases hlt:i<ts.length
  ·have hd:ts.drop i=ts[i]::ts.drop (i+1):=zbc hlt
   have hg:ts[i]? = some ts[i]:=zav hlt
   rw [hd] at e3
   obtain⟨τ3,e4,e3⟩:=bind_some e3
   split at e3
   ·next h3 =>
    obtain⟨r',e5,e3⟩:=bind_some e3
    refine .inr ⟨W.go i _ F1 H1 hg s1 D1.E.g.fh,fun σ H=>∃F1 τ1 dd1,yF X.K Y0 Y9 F1 H σ τ1 x p dd1/\aV F' F1/\m6 x fg fb (ts.drop (i+1)) p dd1 τ1=some r,fun σ' H' n=>⟨_,.e,rfl,hlt,n⟩,fun y H2 z=>?_⟩
    obtain⟨F2,gr,rx⟩:=W.yld i _ F1 H1 y H2 hg s1 D1.E.g.fh z
    have D2:=D1.grow gr
    refine⟨Y0,lM Y9 H2 p,F2,τ2,ts[i],τ3,D2.lend,rx,e4,fun F3 H3 σ3 E3 s3=>?_⟩
    have D3:=D2.back E3 s3 (jN h3)
    have s03:aV F' F3:=s1.trans (gr.sF.trans s3)
    exact⟨F3,τ3,p,dd1,r',D3,e5,fun F4 H4 σ4 D4 s4=>⟨F4,r'.2,r'.1,D4,s03.trans s4,e3⟩⟩
   ·cases e3
  ·have he:i=ts.length:=.e
   subst he
   rw [zbq] at e3
   cases e3
   exact .inl ⟨W.stop F1 H1 s1 D1.E.g.fh,k F1 H1 σ1 D1 (s'.trans s1)⟩
 ·cases e1
def uk (x:Nat)(fk fe:FE):FZ:=fun p d τ=>(fe τ).bind fun q=>if mY x p q.2=true then (fk q.2).bind fun z=>match z.1 with
 | .str k=>if mY x p z.2=true/\d.1.length<sizeLine then some (d.put k q.1,z.2) else none
 |_=>none else none
theorem B0 {nx:Str}{q1 p1:Pos}{ek v:Expr}{fk fe:FE}(hu:.bE)(hv:PE X (.Name nx q1) (yu x))(hk:SE X ek fk)(he:SE X v fe)
  (hs:swapsWith v (some (.Subscript (.Name nx q1) ek p1)) pos.line X.env=pure false:=by rfl):SZ X x (.Assign [.Subscript (.Name nx q1) ek p1] v pos) (uk x fk fe):=fun Y0 Y9=>PS.weak (JX .e hv hk.any he.any hs) fun D σ H hq__=>by
 obtain⟨F,τ,p,d,r,q0,e1,k⟩:=hq__
 obtain⟨⟨t,τ1⟩,e2,e1⟩:=bind_some e1
 dsimp only at e1
 split at e1
 ·next hp =>
  obtain⟨⟨z,τ2⟩,e3,e1⟩:=bind_some e1
  cases z with
  |str y =>
   dsimp only at e1
   split at e1
   ·next hh =>
    cases e1
    refine⟨Y0,lM Y9 H p,F,τ,t,τ1,q0.lend,e2,fun F1 H1 w E1 s1 r1=>?_⟩
    have d1:=q0.back E1 s1 (jN hp)
    refine⟨_,d1.get,Y0,lM Y9 H1 p,F1,τ1,.str y,τ2,d1.lend,e3,fun F2 H2 u E2 s2 r2=>?_⟩
    have d2:=d1.back E2 s2 (jN hh.1)
    cases r2
    obtain⟨kvs,h1,h2,h3⟩:=d2.put (k:=y) (Rep.mono s2 r1)
    exact⟨p,_,rfl,E5.k (k:=.inr y) h1 (by rw [h2];exact hh.2),k F2 _ σ h3 .bq⟩
   ·cases e1
  |_=>cases e1
 ·cases e1
abbrev Iw:=Addr->DS->aD->Option R
def SH (K:.l)(Y0 Y9:Hp)(x:Nat)(g:Iw):TS:=fun D σ H=>∃F τ p d r,yF K Y0 Y9 F H σ τ x p d/\g p d τ=some r/\pq K Y0 Y9 F D r
def PB (X:Cx)(x:Nat)(ss:.bG)(g:Iw):Prop:=∀Y0 Y9,mK X ss (SH X.K Y0 Y9 x g)
def mz (f:FZ)(g:Iw):Iw:=fun p d τ=>(f p d τ).bind fun r=>g p r.1 r.2
theorem tY {st:Stmt}{rest:.bG}{f:FZ}{g:Iw}(h1:SZ X x st f)(h2:PB X x rest g):PB X x (st::rest) (mz f g):=fun Y0 Y9=>mK.weak (jQ (h1 Y0 Y9) (h2 Y0 Y9)) fun D σ H hq__=>by
 obtain⟨F,τ,p,d,r,q,e1,k⟩:=hq__
 obtain⟨r1,e2,e1⟩:=bind_some e1
 exact⟨F,τ,p,d,r1,q,e2,fun F1 H1 σ1 d1 s1=>⟨F1,r1.2,p,r1.1,r,d1,e1,k.mono s1⟩⟩
def zEnd (x:Nat)(f:FS):Iw:=fun p d τ=>f (τ.set x (.y (.dct d.1 d.2)))
theorem DB {rest:.bG}{f:FS}(h:AV X rest f):PB X x rest (zEnd x f):=fun Y0 Y9 pins s σ H D I hq__=>by
 obtain⟨F,τ,p,d,r,q,e1,k⟩:=hq__
 obtain⟨vs,hp,hl,hr⟩:=q.hp
 obtain⟨o,I2⟩:=I.freeze hp
 have sF:aV F (upd F p (.frz o (.dK (df d.1 vs)))):=fun b u e=>by rw [aE (fun z=>by subst z;rw [q.fp] at e;cases e)];exact e
 refine h Y0 Y9 pins s σ _ D I2 ⟨upd F p (.frz o (.dK (df d.1 vs))),τ.set x (.y (.dct d.1 d.2)),r,⟨⟨q.E.g.sF.trans sF,fun b u e=>?_,fun b u e=>?_,fun b u e=>?_⟩,by rw [List.length_set];exact q.E.len,fun i t e=>?_,fun i j ts us r ne e2 e3=>?_⟩,e1,k.mono sF⟩
 ·rw [aE (fun z=>by subst z;rw [q.h0] at e;cases e)];exact q.E.g.sH _ _ e
 ·by_cases z:b=p
  ·subst z;rw [aQ] at e ⊢;exact e
  ·rw [aE z] at e ⊢;exact q.E.g.fh _ _ e
 ·by_cases z:b=p
  ·subst z;exact .inr q.h0
  ·rw [aE z] at e;exact q.E.g.nw _ _ e
 ·by_cases hi:x=i
  ·subst hi
   have hlt:x<τ.length:=(zas.mp q.hx).1
   rw [zam hlt] at e
   cases e
   exact⟨_,q.get,p,o,vs,rfl,aQ,hl,aT.mono sF hr⟩
  ·rw [zal hi] at e
   obtain⟨v,h1,h2⟩:=q.E.sl i t e
   refine⟨v,h1,?_⟩
   cases t with
   |sh t=>exact Rep.mono sF h2
   |own ts =>
    obtain⟨a,ws,rfl,k1,k2,k3,k4⟩:=h2
    have ne:a≠p:=fun z=>by subst z;rw [hp] at k1;cases k1
    exact⟨a,ws,rfl,by rw [aE ne];exact k1,by rw [aE ne];exact k2,k3,aT.mono sF k4⟩
 ·have ow:∀{i:Nat} {ts:List T},(τ.set x (.y (.dct d.1 d.2)))[i]? = some (.v ts)->τ[i]? = some (.v ts):=fun {i ts} e=>by
   by_cases hi:x=i
   ·subst hi
    rw [zam (zas.mp q.hx).1] at e;cases e
   ·rw [zal hi] at e;exact e
  exact q.E.dj i j ts us r ne (ow e2) (ow e3)
open Classical in
def qf (x:Nat)(g:Iw):FS:=fun τ=>if h:x<τ.length/\∃r,∀p:Addr,g p ([],[]) (τ.set x (.y (.ptr p)))=some r then some h.2.choose else none
theorem yY {x:Nat}{g:Iw}{τ:aD}{r:R}(hx:x<τ.length)(h:∀p:Addr,g p ([],[]) (τ.set x (.y (.ptr p)))=some r):qf x g τ=some r:=by
 have ex:x<τ.length/\∃r,∀p:Addr,g p ([],[]) (τ.set x (.y (.ptr p)))=some r:=⟨hx,r,h⟩
 unfold qf
 rw [dif_pos ex]
 have:=(h 0).symm.trans (ex.2.choose_spec 0)
 exact this.symm
theorem AH {ss:.bG}{nx:Str}{p1 p2:Pos}{g:Iw}(hN:X.N.Nodup)(hi:X.N[x]? = some nx)(hx:Loc X.env.scope nx)(h:PB X x ss g)(hs:swapsWith (.Dict [] [] p2) (.Y nx p1) pos.line X.env=pure false:=by rfl)
  (hf:X.fn nx=true\/X.env.scope.names.lookup nx=some .local:=by first | exact .inl rfl | exact .inr rfl | assumption):AV X (.Assign [.Name nx p1] (.Dict [] [] p2) pos::ss) (qf x g):=fun Y0 Y9=>mK.weak (jQ (BO hN hi hx Hk hs hf) .c3) fun D σ H hq__=>by
 obtain⟨F,τ,r,E,e1,k⟩:=hq__
 unfold qf at e1
 split at e1
 ·next hh =>
  cases e1
  intro p n
  have sH:aV H (upd H p (.dK [])):=dz n
  have fp:F p=none:=E.g.fh.free n
  refine⟨F,τ.set x (.y (.ptr p)),p,([],[]),_,⟨(E.hp sH).set (t:=.ptr p) rfl,zam hh.1,⟨[],aQ,rfl,rfl⟩,zby,fp,E.g.sH.free n⟩,hh.2.choose_spec p,k⟩
 ·cases e1
end
theorem A6 {prog:.am}{w:World}{A:Around}{R:.e3}{s:Shared}{kx vx target iter:Expr}{ifs:.az}{scope:Scope}{pos:Pos}{it:Value}{D:Addr}{env:Env}(I:Nat->Shared->Prop)
  (turn:∀n s,I n s->wpAny .M A (pyNext it) (fun r s₁=>match r with
   |none=>R (.ok .next) s₁
   | some v=>wpAny .M A (letOwnedTupleGo target it v) (fun _ s₂=>wpAny .M A (assign target env v) (fun _ s₃=>wpAny .M A (yy ifs env) (fun ok s₄ =>
     if ok=true then wpAny .M A (eval kx env) (fun x s₅=>wpAny .M A (eval vx env) (fun y s₆=>wpAny .M A (dictSet D x y) (fun _ s₇=>∃m,m<n/\I m s₇) .aJ s₆) .aJ s₅) .aJ s₄
     else ∃m,m<n/\I m s₄) .aJ s₃) .aJ s₂) .aJ s₁) .aJ s)
  (n:Nat) (h:I n s):codeAny .M A (.compLoop (.DictComp kx vx [⟨target,iter,ifs,0⟩] scope pos) 0 it (.c D) env) R s:=by
 have no:∀{α:Type} {m:Sem α} {Q:α->Shared->Prop} {E:.m} {s:Shared},wpAny .M A m Q .aJ s->wpAny .M A m Q E s:=fun h=>wpAny_mono h (fun _ _ q=>q) fun _ _ z=>z.elim
 refine codeAny_loop rfl I (fun n s hI=>?_) n h
 refine (wpAny_noted ?_:wpAny _ A ((compTurn (.DictComp kx vx [⟨target,iter,ifs,0⟩] scope pos) 0 it (.c D) env).onRaise (fun x=>do noteFrame x env;theTreesLotGoes x)) _ _ s)
 rw [compTurn_dict]
 refine wpAny_bind (wpAny_standAt (.u (wpAny_mono (no (turn n s hI)) (fun r s₁ h₁=>?_) fun _ _ z=>z)))
 cases r with
 |none=>exact wpAny_pure h₁
 |some v =>
  refine wpAny_bind (wpAny_mono (no h₁) (fun _ s₂ h₂=>wpAny_bind (wpAny_mono (no h₂) (fun _ s₃ h₃=>wpAny_bind (wpAny_mono (no h₃) (fun ok s₄ h₄=>?_) fun _ _ z=>z)) fun _ _ z=>z)) fun _ _ z=>z)
  cases ok with
  |false=>exact wpAny_pure ⟨rfl,h₄⟩
  |true =>
   refine wpAny_bind (.u (wpAny_mono (no h₄) (fun x s₅ h₅=>?_) fun _ _ z=>z))
   refine wpAny_bind (wpAny_holding (wpAny_mono (no h₅) (fun y s₆ h₆=>?_) fun _ _ z=>z))
   refine wpAny_bind (wpAny_standAt ?_)
   exact wpAny_holding (wpAny_mono (no h₆) (fun _ s₇ h₇=>wpAny_pure ⟨rfl,h₇⟩) fun _ _ z=>z)
def jn (fg:FG)(ft:FT)(fk fv:FE):List T->aD->DS->Option DS
 |[],_,acc=>some acc
 | t::ts,τ,acc=>(fg t τ).bind fun τ1=>(ft τ1).bind fun p=>if p.1=true then (fk p.2).bind fun q=>(match q.1 with
   | .str k=>(fv q.2).bind fun z=>if bL z.2=true/\acc.1.length<sizeLine then jn fg ft fk fv ts z.2 (acc.put k z.1) else none
   | _=>none)
  else if bL p.2=true then jn fg ft fk fv ts p.2 acc else none
theorem N1 {P:.am}{w:World}{H:Hp}{h:Heap}{scope:Scope}(hb:sysModules<h.objs.size):du P w H (hA lF h scope) h.objs.size (.dK []):=by
 obtain⟨z,hd,vs,rel,q,es,ep,hq,r⟩:=yV (P:=P) (w:=w) (H:=H) h hb
 exact⟨z,hd,vs,rel,q,es,ep,pushCells_keeps _ _ _ _ (.B hq),r⟩
section
variable {X:Cx}
theorem D0 {pins:.s}{σ:L2.St}{H:Hp}{s:Shared}{a:Addr}{kvs:.cs}{k:Key}{v:V}{u r:Value}{A:Around}{E:.m}{Q:.dR}(I:.u)(e:H a=some .bD)(l:kvs.length<sizeLine)(ry:RelV (kV k) u)(rv:RelV v r)
  (h:∀s',Inv X pins σ (upd H a (.dK (putK kvs k v))) s'->Q () s'):wpAny .q A (dictSet a u r) Q E s:=by
 obtain⟨z,hd,vs,rel,dd⟩:=Fx I.hok e
 have hz:vs.length≤sizeLine:=by rw [<- rel.length];exact z
 have hl:(putK kvs k v).length≤sizeLine:=by have:=lL kvs k v;omega
 refine wpAny_dictSet_pairs (vS ry) dd (fun h' dd' hs=>h _ ?_) hz
 have he:∃q,h'.get? a=some q:=let ⟨q,_,_,hq,_⟩:=dd';⟨q,hq⟩
 exact wV I .fF hs he (Fw hl hd (rel.put k rv) dd')
structure EZ (X:Cx)(pins:.s)(σ:L2.St)(Y0 Y9 F:Hp)(τ:aD)(rs:DS)(D C:Addr)(s:Shared):Prop where
 ex:∃(H F3:Hp) (vs:List V),Inv X pins σ H s/\aJ X.K Y0 Y9 F3 H σ τ/\aV F F3/\F3 D=none/\H D=some (.dK (df rs.1 vs))/\Y9 D=none/\vs.length=rs.1.length/\aT X.K F3 rs.2 vs/\H C=none
 ns:∃m,s.heap.Ns C m
 cl:C≠X.env.locals
 c0:X.Y8.heap.objs.size≤C
 cc:∀x c,X.env.cells.lookup x=some c->c≠C
 cp:∀p∈X.pn++pins,p.1≠C
theorem rM {kx vx tg iter:Expr}{ifs:.az}{scope:Scope}{pos:Pos}{N':.Y}{no:Nat}{cap:.I}{fi:FA}{fg:FG}{ft:FT}{fk fv:FE}(hu:.bE)(hx:X.xe=fun _ _=>False)(hc:.bL)(B:eQ X scope)(hN:.cE)
  (hcap:∀(k j:Nat),cap[k]? = some j->∃x,N'[no+k]? = some x/\X.N[j]? = some x/\(x,NameKind.free)∈scope.names) (hi:.dH)
  (hg:∀C cs Y8 Y9 fp pins,SG .z tg fg) (ht:∀C cs Y8 Y9 fp pins,EX .z ifs ft) (hk:∀C cs Y8 Y9 fp pins,SE .z kx fk) (he:∀C cs Y8 Y9 fp pins,SE .z vx fv)
  {Y0 Y9 F H:Hp} {pins:.s} {s:Shared} {σ:L2.St} {τ τ1:aD} {ts:List T} {rs:DS} (I:.u) (E:aJ X.K Y0 Y9 F H σ τ) (e2:fi τ=some (ts,τ1)) (ha:bL (cW no cap .dP)=true) (e3:jn fg ft fk fv ts (cW no cap .dP) ([],[])=some rs)
  {post:Value->Addr->Result->Shared->Prop} (hpost:∀D C s',EZ X pins σ Y0 Y9 F .dP rs D C s'->post (.c D) C (.ok .next) s'):
  wpAny .q X.A (.Q iter) (fun x s₁=>wpAny .q X.A (pyIter x) (fun it s₂=>wpAny .q X.A newDict (fun acc s₃ =>
   wpAny .q X.A (newFunctionEnv scope X.env.globals .bj [] X.env.qual none .none (some X.env)) (fun cenv s₄ =>
    codeAny .q X.A (.compStart .aE 0 it acc { cenv with scope:=relabel scope X.env }) (post acc cenv.locals) s₄) X.xe s₃) X.xe s₂) X.xe s₁) X.xe s:=by
 refine cR (hi Y0 Y9 pins s σ H (fun J H1=>∃F1,aJ X.K Y0 Y9 F1 H1 σ τ1/\aV F F1/\Walks X.K F1 ts J) I ⟨F,τ,ts,τ1,E,e2,fun F1 H1 J E1 s1 W=>⟨F1,E1,s1,W⟩⟩) fun v s1 h1=>cR h1 fun itv s2 h2=>?_
 obtain⟨it,fp,tn,J,H1,rfl,I2,Tn,st2,f2,F1,E1,sF1,W⟩:=h2
 obtain⟨F2,E2,sF2⟩:=E1.frzAll cap
 have W2:Walks X.K F2 ts J:=⟨fun i t F3 H3 e a b=>W.go i t F3 H3 e (sF2.trans a) b,fun i t F3 H3 x H4 e a b y=>W.yld i t F3 H3 x H4 e (sF2.trans a) b y,fun F3 H3 a b=>W.stop F3 H3 (sF2.trans a) b⟩
 refine wpAny_newObj_type ?_
 have hz:(s2.heap.push lF).objs.size=s2.heap.objs.size+1:=Heap.size_push ..
 have hz2:((s2.heap.push lF).push lF).objs.size=s2.heap.objs.size+2:=by rw [Heap.size_push,hz]
 simp only [newFunctionEnv,Option.isSome_some,if_true]
 refine wpAny_bind (wpAny_alloc ?_)
 refine wpAny_bind (wpAny_layCells _ (fun name kind cells=>by cases hkc:kind == NameKind.cell<;>simp [hkc]) _ _ _ _ ?_)
 simp only [List.forIn_nil]
 refine wpAny_bind (.V .b9)
 have loop:codeAny .q X.A (.compLoop .aE 0 .fC .bt (jm X scope .bZ .al))
   (post .bt .bZ) { s2 with heap:=hA lF s2.heap scope }:=by
  have Ib:=rF (N':=N') lF (.dK []) (N1 I2.big) (σ':=cW no cap σ) (tk:=s2.toks) I2 B f2 (fun b hb=>by obtain⟨o,e,_⟩:=Tn.obj 0 _ st2 b hb;exact⟨o,e⟩) (by simp [cW,hN]) (fun i x v a1 a2=>by
   obtain⟨k,j,rfl,hk,hj⟩:=pC a2
   obtain⟨x',b1,b2,b3⟩:=hcap k j hk
   rw [a1] at b1;cases b1
   exact .inl ⟨b3,j,b2,hj⟩)
  generalize hX':mX X scope N' .bZ .al s2 H1 fp pins=X' at Ib
  have hg':SG X' tg fg:=by rw [<- hX'];exact hg _ _ _ _ _ _
  have ht':EX X' ifs ft:=by rw [<- hX'];exact ht _ _ _ _ _ _
  have hk':SE X' kx fk:=by rw [<- hX'];exact hk _ _ _ _ _ _
  have he':SE X' vx fv:=by rw [<- hX'];exact he _ _ _ _ _ _
  have xP:X'.prog=X.prog:=by rw [<- hX'];rfl
  have xw:X'.w=X.w:=by rw [<- hX'];rfl
  have xK:X'.K=X.K:=by rw [<- hX'];rfl
  have xA:X'.A=X.A:=by rw [<- hX'];rfl
  have xc:X'.calm=true:=by rw [<- hX'];exact hc
  have xx:X'.xe=fun _ _=>False:=by rw [<- hX'];rfl
  have xe':X'.env=jm X scope .bZ .al:=by rw [<- hX'];rfl
  have xex:X'.ex=fp:=by rw [<- hX'];rfl
  have xfs:X'.fs=vL X.stack:=by rw [<- hX'];rfl
  have xpn:X'.pn=X.pn++pins:=by rw [<- hX'];rfl
  have xs0:X'.Y8=s2:=by rw [<- hX'];rfl
  have xH0:X'.Y9=H1:=by rw [<- hX'];rfl
  have xl:X'.env.locals=s2.heap.objs.size+1:=by rw [<- hX'];rfl
  rw [<- xe',<- xP,<- xw,<- xA]
  have hD1:H1 s2.heap.objs.size=none:=I2.fresh
  have fpk:∀{Hc:Hp} {σc:L2.St} {pc:.s} {sc:Shared},Inv X' pc σc Hc sc->(∀b∈fp,Hc b=none)->∀b∈fp,ri X' [] Hc b:=fun {Hc σc pc sc} Ic hn b hb=>by
   have q1:=Ic.ok.exf b .es
   have q2:=Ic.ok.exfs b .es
   refine⟨hn b hb,q1.1,q2,.inl .es,q1.2,fun p hp=>?_⟩
   rw [xpn,zax] at hp
   exact (f2 b hb).2.2.2.2.2 p hp
  refine A6 (fun n s3=>∃i σ3 H3 F3 τ3 us vs,Inv X' [] σ3 H3 s3/\tn i s3.heap/\(∀b∈fp,H3 b=none)/\aJ X.K F3 H3 F3 H3 σ3 τ3/\bL τ3=true/\F3 s2.heap.objs.size=none/\H3 s2.heap.objs.size=some (.dK (df us.1 vs))/\(vs.length=us.1.length/\us.1.Nodup/\aT X.K F3 us.2 vs)/\aV F2 F3/\aV H1 H3 /\
   (∀a o,F3 a=some o->F2 a=some o\/H1 a=none)/\i≤ts.length/\n=ts.length-i/\jn fg ft fk fv (ts.drop i) τ3 us=some rs) ?_ ts.length ?_
  ·rintro n s3 ⟨i,σ3,H3,F3,τ3,us,vs,I3,st3,fr3,E3,ha3,fD,hD,⟨lv,nd,rv⟩,sF,sH,nw,hi',rfl,ec⟩
   by_cases hlt:i<ts.length
   ·have hgi:ts[i]? = some ts[i]:=zav hlt
    rw [zbc hlt] at ec
    obtain⟨τ4,e4,ec⟩:=bind_some ec
    obtain⟨⟨b,τ5⟩,e5,ec⟩:=bind_some ec
    have go:=W2.go i _ F3 H3 hgi sF E3.g.fh
    have itm:=(xP ▸ xw ▸ xK ▸ Tn:Turn X'.prog X'.w X'.K tg J fp it tn).item X' rfl rfl rfl xc i [] s3 σ3 H3 .aJ I3 (fpk I3 fr3) st3 go
    refine cR itm fun r s4 ⟨u,hr,h4⟩=>?_
    subst hr
    refine cR h4 fun _ s5 ⟨x,H5,I5,r5,y5,st5,fr5⟩=>?_
    have I5':=I5.pinned (fpk I5 fr5) (Tn.obj _ _ st5)
    obtain⟨F5,gr,rx⟩:=W2.yld i _ F3 H3 x H5 hgi sF E3.g.fh y5
    have a1:=hg' F3 H3 _ s5 σ3 H5 x u (fun σ6 H6=>∃F6,aJ X.K F3 H3 F6 H6 σ6 τ4/\aV F5 F6) I5' r5 (by rw [xK];exact⟨F5,τ3,ts[i],τ4,E3.grow gr,rx,e4,fun F6 H6 σ6 E6 s6=>⟨F6,E6,s6⟩⟩)
    rw [xx] at a1
    refine cR a1 fun _ s6 ⟨σ6,H6,I6,F6,E6,sF6⟩=>?_
    have a2:=ht' F3 H3 _ s6 σ6 H6 (fun b' H7=>b'=b/\∃F7,aJ X.K F3 H3 F7 H7 σ6 τ5/\aV F6 F7) I6 (by rw [xK];exact⟨F6,τ4,b,τ5,E6,e5,fun F7 H7 E7 s7=>⟨rfl,F7,E7,s7⟩⟩)
    rw [xx] at a2
    refine cR a2 fun ok s7 ⟨H7,I7,hok,F7,E7,sF7⟩=>?_
    subst hok
    have tail:∀{σc:L2.St} {Hc:Hp} {sc:Shared},Inv X' ([]++pN fp s5.heap) σc Hc sc->tn (i+1) sc.heap/\∀b∈fp,Hc b=none:=fun {σc Hc sc} Ic=>by
     refine⟨Tn.keep _ _ _ st5 fun b hb o e=>(Ic.pin (b,o) .dv).1,fun b hb=>?_⟩
     obtain⟨o,e,d⟩:=Tn.obj _ _ st5 b hb
     exact (Ic.pin (b,o) .dv).2.1
    have keepD:∀{Fc Hc:Hp} {σc:L2.St} {τc:aD},aJ X.K F3 H3 Fc Hc σc τc->Fc s2.heap.objs.size=none:=fun {Fc Hc σc τc} Ec=>by
     cases eF:Fc s2.heap.objs.size with
     |none=>rfl
     |some o =>
      rcases Ec.g.nw _ o eF with z | z
      ·rw [fD] at z;cases z
      ·rw [hD] at z;cases z
    have newF:∀{Fc Hc:Hp} {σc:L2.St} {τc:aD},aJ X.K F3 H3 Fc Hc σc τc->∀a o,Fc a=some o->F2 a=some o\/H1 a=none:=fun {Fc Hc σc τc} Ec a o eF=>by
     rcases Ec.g.nw a o eF with z | z
     ·exact nw a o z
     ·exact .inr (sH.free z)
    cases b':ok with
    |false =>
     subst b'
     dsimp only at ec
     rw [if_neg .f] at ec
     split at ec
     ·next ha =>
      rw [if_neg .f]
      obtain⟨t1,t2⟩:=tail I7
      exact⟨ts.length-(i+1),.e,i+1,σ6,H7,F7,τ5,us,vs,I7.unpinned,t1,t2,E7.rebase ha E7.g.fh,ha,keepD E7,E7.g.sH _ _ hD,⟨lv,nd,aT.mono E7.g.sF rv⟩,sF.trans E7.g.sF,sH.trans E7.g.sH,newF E7,hlt,rfl,ec⟩
     ·cases ec
    |true =>
     subst b'
     dsimp only at ec
     rw [if_pos rfl] at ec
     rw [if_pos rfl]
     obtain⟨⟨k0,τ6⟩,e6,ec⟩:=bind_some ec
     cases k0 with
     |str k0 =>
      dsimp only at ec
      obtain⟨⟨y0,τ7⟩,e7,ec⟩:=bind_some ec
      dsimp only at ec
      split at ec
      ·next ha =>
       have a3:=hk' F3 H3 _ s7 σ6 H7 (fun y H8=>y=.str k0/\∃F8,aJ X.K F3 H3 F8 H8 σ6 τ6/\aV F7 F8) I7 (by rw [xK];exact⟨F7,τ5,.str k0,τ6,E7,e6,fun F8 H8 y E8 s8 r8=>⟨r8,F8,E8,s8⟩⟩)
       rw [xx] at a3
       refine cR a3 fun kv s8 ⟨y,H8,I8,ry,hy,F8,E8,sF8⟩=>?_
       subst hy
       have a4:=he' F3 H3 _ s8 σ6 H8 (fun y H9=>∃F9,aJ X.K F3 H3 F9 H9 σ6 τ7/\aV F8 F9/\Rep X.K F9 y0 y) I8 (by rw [xK];exact⟨F8,τ6,y0,τ7,E8,e7,fun F9 H9 y E9 s9 r9=>⟨F9,E9,s9,r9⟩⟩)
       rw [xx] at a4
       refine cR a4 fun vv s9 ⟨y,H9,I9,ry9,F9,E9,sF9,rp⟩=>?_
       have dD:H9 s2.heap.objs.size=some (.dK (df us.1 vs)):=E9.g.sH _ _ hD
       have hlk:(df us.1 vs).length<sizeLine:=by rw [lK lv];exact ha.2
       refine D0 I9 dD hlk (k:=.inr k0) ry ry9 fun s10 I10=>?_
       obtain⟨t1,t2⟩:=tail I10
       have kD:=keepD E9
       have sm:aV F9 (upd H9 s2.heap.objs.size (.dK (putK (df us.1 vs) (.inr k0) y))):=fun c o z=>by rw [aE (fun w=>by subst w;rw [kD] at z;cases z)];exact E9.g.fh _ _ z
       have sm1:aV H1 (upd H9 s2.heap.objs.size (.dK (putK (df us.1 vs) (.inr k0) y))):=fun c o z=>by rw [aE (fun w=>by subst w;rw [hD1] at z;cases z)];exact E9.g.sH _ _ (sH _ _ z)
       exact⟨ts.length-(i+1),.e,i+1,σ6,_,F9,τ7,us.put k0 y0,lq us.1 vs k0 y,I10.unpinned,t1,t2,E9.rebase ha.1 sm,ha.1,kD,by rw [aQ,De lv nd];rfl,⟨tq lv,nL nd,tu rp lv (aT.mono E9.g.sF rv)⟩,sF.trans E9.g.sF,sm1,newF E9,hlt,rfl,ec⟩
      ·cases ec
     |_=>cases ec
   ·have hie:i=ts.length:=.e
    subst hie
    rw [zbq] at ec
    cases ec
    have dn:=(xP ▸ xw ▸ xK ▸ Tn:Turn X'.prog X'.w X'.K tg J fp it tn).done X' rfl rfl rfl xc ts.length [] s3 σ3 H3 .aJ I3 (fpk I3 fr3) st3 (W2.stop F3 H3 sF E3.g.fh)
    refine cR dn fun r s4 ⟨hr,I4⟩=>?_
    subst hr
    obtain⟨m4,hm4,_⟩:=I4.loc
    rw [xl] at hm4
    have un:=I4.base
    rw [xfs,xex,xH0,xs0] at un
    have ox:=I4.os
    rw [xs0] at ox
    have hok4:=I4.hok
    rw [xP,xw] at hok4
    have IX:Inv X pins σ H3 s4:=I2.call' ox un hok4 I4.bare fun b hb=>⟨(f2 b hb).2.2.2.1,(f2 b hb).2.1,(f2 b hb).2.2.2.2.1,(f2 b hb).2.2.2.2.2⟩
    have hC:H3 .bZ=none:=by have:=I4.free;rw [xl] at this;exact this
    have lC:@LT.lt Nat _ X.env.locals s2.heap.objs.size:=I2.lt
    have gr:bw F2 H1 F3 H3:=⟨sF,sH,E3.g.fh,nw⟩
    exact hpost _ _ _ ⟨⟨H3,F3,vs,IX,E2.grow gr,(sF1.trans sF2).trans sF,fD,hD,E2.g.sH.free hD1,lv,rv,hC⟩,⟨m4,hm4⟩,zaU (zaJ lC),zaA I2.sz (zbV _),
     fun x c hxc=>by obtain⟨v,z⟩:=I2.cell x c hxc;exact zaq (zaJ z.lt),fun p hp=>zaq (zaJ (Heap.lt_size (I2.pin p hp).1))⟩
  ·refine⟨0,cW no cap σ,upd H1 s2.heap.objs.size (.dK []),F2,cW no cap .dP,([],[]),[],Ib,Tn.keep _ _ _ st2 fun b hb o e=>ja e,fun b hb=>?_,E2.block ha (E2.g.fh.trans (dz hD1)),ha,E2.g.fh.free hD1,aQ,⟨rfl,zby,rfl⟩,aV.refl _,dz hD1,fun a o z=>.inl z,za6 _,rfl,e3⟩
   obtain⟨o,e,_⟩:=Tn.obj 0 _ st2 b hb
   rw [aE (zaq .aF)]
   exact (f2 b hb).1
 have fin:∀{C:Addr} {cs:.cA},C=s2.heap.objs.size+1->cs=cellsFrom (s2.heap.objs.size+2) scope.names .bj ->
   codeAny .q X.A (.compStart .aE 0 .fC .bt (jm X scope C cs)) (post .bt C) { s2 with heap:=hA lF s2.heap scope }:=fun {C cs} h1 h2=>by
  subst h1 h2
  exact codeAny_compStart_dict loop (Tn.self _ 0 _ _ _ (Tn.keep _ _ _ st2 fun b hb o e=>ja e) loop)
 exact fin hz (by rw [<- hz2])
theorem aJ.frzD {K:.l}{Y0 Y9 F H:Hp}{σ:L2.St}{τ:aD}{p:Addr}{kvs:.cs}{o:Obj}(E:.aG)(hp:H p=some .bD)(fp:F p=none)(h0:Y9 p=none):
  aJ K Y0 Y9 (upd F p .eK) (upd H p .eK) σ τ/\aV F (upd F p .eK):=by
 have sF:aV F (upd F p .eK):=fun b u e=>by rw [aE (fun z=>by subst z;rw [fp] at e;cases e)];exact e
 refine⟨⟨⟨E.g.sF.trans sF,fun b u e=>?_,fun b u e=>?_,fun b u e=>?_⟩,E.len,fun i t e=>?_,E.dj⟩,sF⟩
 ·rw [aE (fun z=>by subst z;rw [h0] at e;cases e)];exact E.g.sH _ _ e
 ·by_cases z:b=p
  ·subst z;rw [aQ] at e ⊢;exact e
  ·rw [aE z] at e ⊢;exact E.g.fh _ _ e
 ·by_cases z:b=p
  ·subst z;exact .inr h0
  ·rw [aE z] at e;exact E.g.nw _ _ e
 ·obtain⟨v,h1,h2⟩:=E.sl i t e
  refine⟨v,h1,?_⟩
  cases t with
  |sh t=>exact Rep.mono sF h2
  |own ts =>
   obtain⟨a,ws,rfl,k1,k2,k3,k4⟩:=h2
   have ne:a≠p:=fun z=>by subst z;rw [hp] at k1;cases k1
   exact⟨a,ws,rfl,by rw [aE ne];exact k1,by rw [aE ne];exact k2,k3,aT.mono sF k4⟩
def jq (no:Nat)(cap:.I)(fi:FA)(fg:FG)(ft:FT)(fk fv:FE):FE:=fun τ=>(fi τ).bind fun p =>
 if bL .be=true then (jn fg ft fk fv p.1 .be ([],[])).bind fun d=>some (.dct d.1 d.2,frzAll cap p.2) else none
theorem HD {kx vx tg iter:Expr}{ifs:.az}{scope:Scope}{pos:Pos}{N':.Y}{no:Nat}{cap:.I}{fi:FA}{fg:FG}{ft:FT}{fk fv:FE}(hu:.bE)(hx:X.xe=fun _ _=>False)(hc:.bL)(B:eQ X scope)(hN:.cE)
  (hcap:∀(k j:Nat),cap[k]? = some j->∃x,N'[no+k]? = some x/\X.N[j]? = some x/\(x,NameKind.free)∈scope.names) (hi:.dH)
  (hg:∀C cs Y8 Y9 fp pins,SG .z tg fg) (ht:∀C cs Y8 Y9 fp pins,EX .z ifs ft) (hk:∀C cs Y8 Y9 fp pins,SE .z kx fk) (he:∀C cs Y8 Y9 fp pins,SE .z vx fv)
  (hs:∀x,foldedSetIterable iter X.env x=pure x:=by intro _;rfl):SE X .aE (jq no cap fi fg ft fk fv):=by
 intro Y0 Y9 pins s σ H Q I ⟨F,τ,t,τ',E,e1,q⟩
 obtain⟨⟨ts,τ1⟩,e2,e1⟩:=bind_some e1
 dsimp only at e1
 split at e1
 ·next ha =>
  obtain⟨rs,e3,e1⟩:=bind_some e1
  cases e1
  have hfree:∀y∈scope.names,y.2=.free->∃c,X.env.cells.lookup y.1=some c:=fun y hy hk=>I.ok.has y.1 (B.free y hy hk).1
  rw [arm_eval_DictComp]
  refine wpAny_comprehension_free (use:=none) rfl hs (kf hfree) B.kind B.names (rM hu hx hc B hN hcap hi hg ht hk he I E e2 ha e3 fun D C s' Z=>?_)
  obtain⟨H3,F3,vs,IX,E3,sF,fD,hD,h0D,lv,rv,hC⟩:=Z.ex
  obtain⟨m,hm⟩:=Z.ns
  refine⟨m,hm,fun h' sb=>?_⟩
  have I1:=IX.turned (t':=s'.toks) (it:=C) (h':=h') .el hC Z.cl (.inr Z.c0) Z.cc Z.cp
  obtain⟨o,I2⟩:=I1.freeze hD
  obtain⟨E4,s4⟩:=E3.frzD (o:=o) hD fD h0D
  exact⟨.ref D,_,I2,rfl,q _ _ (.c D) E4 (sF.trans s4) ⟨D,o,vs,rfl,aQ,lv,aT.mono s4 rv⟩⟩
 ·cases e1
end
section
variable {X:Cx}{e:Expr}{pos:Pos}
def O6 (ys:.Y)(i j:Nat):Bool:=decide ((ys.getD i Str.empty).cps.toList<(ys.getD j Str.empty).cps.toList)
def GS (ys:.Y):Str:=ys.getD (argBest (O6 ys) (ys.length-1)) Str.empty
theorem tX {us:.X}{ys:.Y}(h:StrsAre us ys):∀{i:Nat} {v:Value},us[i]? = some v->∃t,v=.str (ys.getD i Str.empty) t/\i<ys.length:=by
 induction h with
 |nil=>intro i v e;cases i<;>cases e
 |cons y t h ih =>
  intro i v e
  cases i with
  |zero=>cases e;exact⟨_,rfl,Nat.zero_lt_succ _⟩
  |succ i =>
   obtain⟨t',e1,e2⟩:=ih (i:=i) (by simpa using e)
   exact⟨t',by rw [e1];rfl,Nat.succ_lt_succ e2⟩
theorem AI {us:.X}{ys:.Y}(h:StrsAre us ys):us.length=ys.length:=by
 induction h with
 |nil=>rfl
 |cons y t h ih=>rw [zaj,zaj,ih]
def rX:List T->Option T
 |[.lst ts]=>(strsOf ts).bind fun ys=>if 0<ys.length then some (.str (GS ys)) else none
 |ts=>II ts
theorem IF (hc:.bL):gy X (.builtin "min") rX:=by
 intro pins s σ H xs us Q I rx ⟨F,ts,t,sm,r,e1,q⟩
 unfold rX at e1
 split at e1
 ·next ts' =>
  obtain⟨ys,e2,e1⟩:=bind_some e1
  split at e1
  ·next hl =>
   cases e1
   obtain⟨v,rr,rfl,h1,rfl⟩:=r
   obtain⟨l,vs,rfl,g1,g2⟩:=h1
   obtain⟨u,rfl,ru⟩:=vals1 rx
   cases ru
   obtain⟨its,rv,ht,hz⟩:=I.list (gR.of (sm _ _ g1))
   have sa:=oX e2 g2 rv
   have hlt:l≠s.heap.objs.size:=by obtain⟨o,ho,_⟩:=ht.isList;exact zaq (Heap.lt_size ho)
   have hh:=I.ok.hd hc
   refine call_min_walk (wpAny_pyIter_list ht.isList ⟨_,_,_,_,_,_,O6 ys,rfl,Walks.list (A:=X.A.in1) hh s.heap.objs.size l hlt its.toArray,⟨.aZ,ht.isList.push _⟩,fun b hb=>?_,by rw [zaE,AI sa];exact hl,fun i j vi vj s' Q' E' hi hj hq=>?_,fun v h' tk hv hk=>?_⟩)
   ·have hsz:(s.heap.push { cls:=.type "list_iterator", data:=.fields #[.ref l,.int 0 0] }).objs.size=s.heap.objs.size+1:=Heap.size_push ..
    dsimp only
    rw [hsz]
    rcases zan.mp hb with rfl | hb
    ·exact zbj _
    ·rw [zac.mp hb]
     obtain⟨o,ho,_⟩:=ht.isList
     exact zaJ (Heap.lt_size ho)
   ·obtain⟨t1,e3,_⟩:=tX sa (i:=i) (v:=vi) .dr
    obtain⟨t2,e4,_⟩:=tX sa (i:=j) (v:=vj) (by simpa using hj)
    subst e3 e4
    exact (P.lt_str hq:wpAny _ _ (compareOp .Lt _ _) _ _ _)
   ·obtain⟨t1,e3,_⟩:=tX sa (i:=argBest (O6 ys) (its.toArray.size-1)) (v:=v) (by simpa using hv)
    subst e3
    rw [zaE,AI sa]
    have I1:Inv X pins σ H { s with heap:=h',toks:=tk }:=I.kept (t':=tk) fun b o e=>hk b o (fun m=>by rw [zac.mp m] at e;exact za1 _ .aF) (.B e)
    exact⟨.str (GS ys),H,I1,⟨t1,rfl⟩,q F H _ .ak rfl⟩
  ·cases e1
 ·exact Lo hc pins s σ H xs us Q I rx ⟨F,ts,t,sm,r,e1,q⟩
theorem HE {x y:Str}{t:Tok}{pos:Pos}(hg:Gl X x)(hm:X.mg x=some (.str y t))(hd:.L=false:=by decide):SE X .cC (fC (.str y)):=gk (oO (v:=.str y) hg hm .aB hd) fun _=>rfl
structure AS (K:.l)(A B C:Addr)(b:Bool):Prop where
 one:∃q,iA K A C q
 kit:PySem.W.kitAny K (.c C) [.ref A,.ref B]=some b
def nz (A B:Addr)(tbl:List .db):List T->Option T
 |[.obj C _ _,.tup [.ptr A',.ptr B']]=>if A'=A/\B'=B then (findB C tbl).bind fun b=>some (.bl b) else none
 |_=>none
theorem Fo {A B:Addr}{tbl:List .db}(ht:∀a∈tbl,AS X.K A B a.1 a.2):gy X .ft (nz A B tbl):=by
 intro pins s σ H xs us Q I rx ⟨F,ts,t,sm,r,e1,q⟩
 unfold nz at e1
 split at e1
 ·next C _ _ A' B' =>
  split at e1
  ·next hAB =>
   obtain⟨hA,hB⟩:=hAB
   subst hA
   subst hB
   obtain⟨b,e3,e1⟩:=bind_some e1
   cases e1
   obtain⟨v,rr,rfl,h1,v2,r2,rfl,h2,rfl⟩:=r
   obtain⟨a,dx,vs,rfl,g1,_⟩:=h1
   obtain⟨tp,zs,rfl,g2,g3⟩:=h2
   cases wa (As:=[A',B']) g3
   obtain⟨u1,u2,rfl,ra,rb⟩:=Vals.two rx
   cases (show u2=Value.ref tp from rb)
   cases (show u1=Value.ref a from ra)
   obtain⟨⟨_,ok⟩,kit⟩:=ht _ (mF e3)
   obtain⟨its,hv,⟨o,h1,h2,n,h3⟩,_⟩:=I.tuple (cm sm g2)
   obtain⟨w1,w2,rfl,r1,r2⟩:=Vals.two hv
   cases (show w1=Value.ref A' from r1)
   cases (show w2=Value.ref B' from r2)
   obtain⟨oc,od',dt,sl⟩:=o
   cases h2
   cases h3
   obtain⟨mA,O,_⟩:=oH I.hok (sm _ _ g1)
   obtain⟨od,J,_⟩:=O.look
   exact PySem.W.kia_tup (PySem.W.kitx_own (ok.cl.get _) ok.cl.hd ok.ha ok.hn ok.htk ok.hm) I.kIn J h1 kit .bo fun tk=>⟨.bl b,H,I.tok tk,rfl,q F H _ .ak rfl⟩
  ·cases e1
 ·cases e1
end
end TM
namespace L2
open PySem PySem.Spec PyProof.Rows
theorem eN.units2 {k:Nat}{A:Around}(r:eN k A):A.units+66<cLine:=by have:=r.un;omega
end L2
namespace TM
open PySem PySem.Spec PyProof.Rows L2
section
variable {X:Cx}{e:Expr}{pos:Pos}
def cX:T->T->Option T
 | .str a,.tup ts=>(strsOf ts).bind fun ys=>if (ys.map (·.length)).sum+ys.length*a.length≤16777216 then some (.str (Txt.join a ys)) else none
 |a,b=>zp a b
theorem jO:Ks X "str.join" cX:=by
 intro pins s σ H x vs v us Q I rx rv ⟨y,hvs,F,a,b,t,sm,ra,rb,e1,q⟩
 subst hvs
 unfold cX at e1
 split at e1
 ·obtain⟨u1,rfl,r1⟩:=Vals.one rv
  obtain⟨ys,e2,e1⟩:=bind_some e1
  split at e1
  ·next hl =>
   cases e1;cases ra
   obtain⟨p,xs,rfl,h1,h2⟩:=rb
   obtain⟨t1,rfl⟩:=rx
   cases r1
   obtain⟨its,rv2,p2,hz⟩:=I.tuple (cm sm h1)
   exact join_tuple p2 (by simpa using oX e2 h2 rv2) hl fun t' k=>⟨.str _,H,I.tok _,.aB,q F H _ .ak rfl⟩
  ·cases e1
 ·exact Jv pins s σ H x [y] v us Q I rx rv ⟨y,rfl,F,a,b,t,sm,ra,rb,e1,q⟩
theorem jM:∀a b t,cX a b=some t->∃x,a=.str x:=fun a b t h=>by
 unfold cX at h
 split at h
 ·exact⟨_,rfl⟩
 ·exact Jb a b t h
def Cq:List T->Option T
 |[.dct ns ts]=>some .ae
 |_=>none
theorem IC:gy X (.type "dict") Cq:=by
 intro pins s σ H xs us Q I rx ⟨F,ts,t,sm,r,e1,q⟩
 unfold Cq at e1
 split at e1
 ·next ns ts' =>
  cases e1
  obtain⟨v,rr,rfl,⟨a,o,vs,rfl,g1,g2,g3⟩,rfl⟩:=r
  obtain⟨u,rfl,ru⟩:=vals1 rx
  cases ru
  obtain⟨h1,z,hd,ws,rel,dd⟩:=I.hok a _ (sm _ _ g1)
  refine kt_call_dict hd dd (by rw [<- rel.length];exact z) fun h' dd' sb=>?_
  have nf:H s.heap.objs.size=none:=I.fresh
  have dq:=dd'
  obtain⟨o',es,ep,hq,rest⟩:=dq
  have gr:=bw.new (.frz o' (.dK (df ns vs))) sm nf
  have lz:(s.heap.objs.size == sysModules)=false:=beq_eq_false_iff_ne.mpr (Ne.symm (zaq I.big))
  refine⟨.ref s.heap.objs.size,_,I.laid (t':=s.toks) (o:=.frz o' (.dK (df ns vs))) (fun b u e=>?_) .bU ⟨hq,z,lz,ws,rel,dd'⟩,rfl,q _ _ _ gr ⟨_,o',vs,rfl,aQ,g2,aT.mono gr.sF g3⟩⟩
  have hb:b≠s.heap.objs.size:=zaq .aF
  exact (sb.2 b hb).trans (.B e)
 ·cases e1
def Bg:List T->List T->Option Bool
 |t::ts,u::us=>(wm t).bind fun d=>(wm u).bind fun e=>if SeqAt.shaped d=true/\SeqAt.shaped e=true then (Bg ts us).bind fun b=>some (d.eqv e&&b) else none
 |[],[]=>some true
 |_,_=>none
def Gd:T->T->Option T
 | .dct ns ts,.dct ms us=>if ns=ms/\ns.Nodup then (Bg ts us).map T.bl else none
 |_,_=>none
theorem zN {pins:.s}{σ:L2.St}{H F:Hp}{s:Shared}{A:Around}{kb:List (Key×Value)}(hu:A.in1.units+64<cLine)(I:.u)(sm:aV F H):∀{ns:.Y} {ts us:List T} {vs ws:List V} {ka' kb':List (Key×Value)} {b:Bool},(∀p∈kb',valueAt kb p.1=some p.2)->vs.length=ns.length->ws.length=ns.length->aT X.K F ts vs->aT X.K F us ws->KV (df ns vs) ka'->KV (df ns ws) kb'->Bg ts us=some b->W.KeqHits A.in1 s kb ka' b
 |[],[],[],[],[],ka',kb',b,_,_,_,_,_,ra,_,e=>by
  cases e
  cases ra
  exact .nil
 |[],_,_,_::_,_,_,_,_,_,h,_,_,_,_,_,_=>by cases h
 |[],_,_,_,_::_,_,_,_,_,_,h,_,_,_,_,_=>by cases h
 |[],_::_,_,[],_,_,_,_,_,_,_,h,_,_,_,_=>by obtain⟨_,_,z,_⟩:=h;cases z
 |[],_,_::_,_,[],_,_,_,_,_,_,_,h,_,_,_=>by obtain⟨_,_,z,_⟩:=h;cases z
 |n::ns,_,_,[],_,_,_,_,_,h,_,_,_,_,_,_=>by cases h
 |n::ns,_,_,_,[],_,_,_,_,_,h,_,_,_,_,_=>by cases h
 |n::ns,[],_,_::_,_,_,_,_,_,_,_,h,_,_,_,_=>by cases h
 |n::ns,_,[],_,_::_,_,_,_,_,_,_,_,h,_,_,_=>by cases h
 |n::ns,t::ts,u::us,v::vs,w::ws,ka',kb',b,hv,l1,l2,r1,r2,k1,k2,e=>by
  obtain⟨v',rr,z1,q1,q2⟩:=r1
  cases z1
  obtain⟨w',rr,z2,q3,q4⟩:=r2
  cases z2
  obtain⟨d,e1,e⟩:=bind_some e
  obtain⟨d',e2,e⟩:=bind_some e
  split at e
  ·next hs =>
   obtain⟨b',e3,e⟩:=bind_some e
   cases e
   cases k1 with
   |cons h1 t1 =>
    cases k2 with
    |cons h2 t2 =>
     rename_i p1 _ p2 _
     obtain⟨k1',x1⟩:=p1
     obtain⟨k2',x2⟩:=p2
     obtain⟨hk1,hr1⟩:=h1
     obtain⟨hk2,hr2⟩:=h2
     dsimp only at hk1 hk2 hr1 hr2
     subst hk1 hk2
     obtain⟨as,g1⟩:=eS I sm e1 q1 hr1
     obtain⟨bs,g2⟩:=eS I sm e2 q3 hr2
     exact .hit (hv _ List.mem_cons_self) (W.keq_at g1 g2 hs.1 hs.2 hu) (zN hu I sm (fun p hp=>hv p (.I hp)) (by simpa using l1) (by simpa using l2) q2 q4 t1 t2 e3)
  ·cases e
theorem wu {κ:Type}[DecidableEq κ]:∀{kb:.eM},(kb.map (·.1)).Nodup->∀p∈kb,valueAt kb p.1=some p.2
 |[],_,p,h=>by cases h
 |a::kb,d,p,h=>by
  rw [zaf,zbe] at d
  unfold valueAt
  rw [List.find?_cons]
  rcases zan.mp h with rfl | h
  ·simp
  ·have:¬ a.1=p.1:=fun z=>d.1 (by rw [z];exact List.mem_map_of_mem h)
   simp only [this,decide_false]
   exact wu d.2 p h
theorem C0:∀{ns:.Y} {vs:List V},vs.length=ns.length->(df ns vs).map (·.1)=ns.map Sum.inr
 |[],[],_=>rfl
 |[],_::_,h=>by cases h
 |n::ns,[],h=>by cases h
 |n::ns,v::vs,h=>by rw [df,List.map_cons,List.map_cons,C0 .aC]
theorem Mc (hu:X.A.units+66<cLine):lr X (.X .Eq) Gd:=fun pins s σ H x y v u Q I rx ry hq__=>by
 obtain⟨F,a,b,t,sm,ra,rb,e,q⟩:=hq__
 unfold Gd at e
 split at e
 ·next ns ts ms us =>
  split at e
  ·next hn =>
   obtain⟨hnm,nd⟩:=hn
   subst hnm
   cases e3:Bg ts us with
   |none=>rw [e3] at e;cases e
   |some r =>
    rw [e3] at e
    cases e
    obtain⟨a1,o1,vs,rfl,g1,l1,q1⟩:=ra
    obtain⟨a2,o2,ws,rfl,g2,l2,q2⟩:=rb
    cases rx
    cases ry
    obtain⟨_,z1,hd1,ka,rel1,dd1⟩:=I.hok a1 _ (sm _ _ g1)
    obtain⟨_,z2,hd2,kb,rel2,dd2⟩:=I.hok a2 _ (sm _ _ g2)
    have hv:=wu (kb:=kb) (by rw [<- rel2.keys,C0 l2];exact List.Pairwise.map _ (fun a b h z=>h (by injection z)) nd)
    refine W.keq_eq hd1 hd2 dd1 dd2 .e (fun _=>zN (by show X.A.units+1+64<cLine;omega) I sm hv l1 l2 q1 q2 rel1 rel2 e3) ⟨.bl _,H,I,rfl,?_⟩
    rw [<- rel1.length,<- rel2.length,lK l1,lK l2]
    simp only [beq_self_eq_true,Bool.true_and]
    exact q F H _ .ak rfl
  ·cases e
 ·cases e
end
section
variable {X:Cx}
theorem AG (i:Nat){y:Str}{py spos:Pos}{kx vx tg iter:Expr}{ifs:.az}{scope:Scope}{pos:Pos}{N':.Y}{no:Nat}{cap:.I}{fi:FA}{fg:FG}{ft:FT}{fk fv:FE}(hNd:X.N.Nodup)(hiy:X.N[i]? = some y)(hy:.cD)(hu:.bE)
  (hx:X.xe=fun _ _=>False) (hc:.bL) (B:eQ X scope) (hN:.cE)
  (hcap:∀(k j:Nat),cap[k]? = some j->∃x,N'[no+k]? = some x/\X.N[j]? = some x/\(x,NameKind.free)∈scope.names) (hi:.dH)
  (hg:∀C cs Y8 Y9 fp pins,SG .z tg fg) (ht:∀C cs Y8 Y9 fp pins,EX .z ifs ft) (hk:∀C cs Y8 Y9 fp pins,SE .z kx fk) (he:∀C cs Y8 Y9 fp pins,SE .z vx fv)
  (hsw:swapsWith .aE (.Y y py) spos.line X.env=pure true:=by rfl) (hs:∀x,foldedSetIterable iter X.env x=pure x:=by intro _;rfl):
  SS X (.Assign [.Name y py] .aE spos) (bA i (jq no cap fi fg ft fk fv)):=by
 intro Y0 Y9 pins s σ H Dn I ⟨F,τ,r,E,e1,q⟩
 obtain⟨⟨t,τ'⟩,e0,e1⟩:=bind_some e1
 cases e1
 obtain⟨⟨ts,τ1⟩,e2,e1⟩:=bind_some e0
 dsimp only at e1
 split at e1
 ·next ha =>
  obtain⟨rs,e3,e1⟩:=bind_some e1
  cases e1
  have hfree:∀y∈scope.names,y.2=.free->∃c,X.env.cells.lookup y.1=some c:=fun y hy hk=>I.ok.has y.1 (B.free y hy hk).1
  rw [exec_Assign_Name_used _ _ _ _ hsw]
  refine wpAny_bind (wpAny_standAt (.u (?_:wpAny _ X.A (do let _ <- comprehension .aE scope X.env _ newDict false (.Q iter) (some (assign (.Name y py) X.env))) _ _ s)))
  refine wpAny_bind (cR (wpAny_comprehension_free (use:=some (assign (.Name y py) X.env)) (Q:=fun _ s'=>SP X pins Dn .next s') rfl hs (kf hfree) B.kind B.names (rM hu hx hc B hN hcap hi hg ht hk he I E e2 ha e3 fun D C s' Z=>?_)) fun _ s' hq=>wpAny_pure (.V hq))
  obtain⟨H3,F3,vs,IX,E3,sF,fD,hD,h0D,lv,rv,hC⟩:=Z.ex
  obtain⟨m,hm⟩:=Z.ns
  refine (wpAny_assign_Name (pV IX hNd hiy (.inl hy) (v:=.ref D) rfl (fun s'' I'' w=>?_) (.inr hy)):wpAny _ X.A (assign (.Name y py) X.env (.c D)) _ _ _)
  obtain⟨a,sb,hab⟩:=w
  have aC:C≠a:=fun z=>by
   subst z
   rcases hab with z | z
   ·exact Z.cl z
   ·exact Z.cc _ _ z rfl
  refine⟨m,hm.sameBut sb aC,fun h' sb'=>?_⟩
  have I1:=I''.turned (t':=s''.toks) (it:=C) (h':=h') (fun b o hb e=>(sb'.2 b hb).trans e) hC Z.cl (.inr Z.c0) Z.cc Z.cp
  obtain⟨o,I2⟩:=I1.freeze hD
  obtain⟨E4,s4⟩:=E3.frzD (o:=o) hD fD h0D
  exact⟨_,_,I2,q _ _ _ (E4.set (t:=.dct rs.1 rs.2) ⟨D,o,vs,rfl,aQ,lv,aT.mono s4 rv⟩) (sF.trans s4)⟩
 ·cases e1
end
section
variable {X:Cx}{e:Expr}
def wg:List O->Option (List Str)
 |[]=>some []
 | .val (.str k)::os=>(wg os).bind fun l=>some (k::l)
 |_=>none
theorem wj:∀l:List Str,wg (l.map fun k=>O.val (.str k))=some l
 |[]=>rfl
 |k::l=>by
  show (wg (l.map fun k=>O.val (.str k))).bind _=_
  rw [wj l]
  rfl
theorem wk {K:.l}{F F' H:Hp}:∀{os:List O} {l:.Y} {vs:List V} {B:.aj},wg os=some l->cP K F H os vs B->aT K F' (l.map T.str) vs
 |[],l,vs,B,e,h=>by cases e;exact h.1
 |o::os,l,vs,B,e,h=>by
  unfold wg at e
  split at e
  ·next e'=>cases e'
  ·next k os' e' =>
   cases e'
   obtain⟨l',e1,e2⟩:=bind_some e
   cases e2
   obtain⟨v,r,B1,C,rfl,rfl,h1,h2⟩:=h
   exact⟨v,r,rfl,h1.2,wk e1 h2⟩
  ·cases e
def pE (i:Nat)(f:uu):FE:=fun τ=>match τ[i]? with
 |some (.v us)=>(f ((hide τ).set i (.y (.lst us)))).bind fun q=>match q.1 with
  | .lst os=>(wg os).bind fun l=>some (.lst (l.map T.str),τ)
  |_=>none
 |_=>none
theorem AA (i:Nat){f:uu}(h:EW X e f):SE X e (pE i f):=fun Y0 Y9=>PE.weak (fun pins s σ H Q I (hh:∃Y0 Y9,_)=>by
  obtain⟨a,b,q⟩:=hh
  exact h a b pins s σ H Q I q) fun σ H Q hq__=>by
 obtain⟨F,τ,t,τ',E,e1,q⟩:=hq__
 unfold pE at e1
 split at e1
 ·next us e3 =>
  obtain⟨⟨o,τ1⟩,e2,e1⟩:=bind_some e1
  dsimp only at e1
  split at e1
  ·next os =>
   obtain⟨l,e4,e1⟩:=bind_some e1
   cases e1
   obtain⟨v,h1,a,vs,rfl,h2,h3,h4,h5⟩:=E.sl i _ e3
   refine⟨L2.upd F a .bC,H,L2.upd F a .bC,_,_,τ1,E.look h1 h2 h3 h5,e2,fun F' H' v' A E' s' ro nd h0 ap=>?_⟩
   have gl:=bw.lent h3 E'.g
   obtain⟨p,ws,B,rfl,rfl,k1,k2,k3⟩:=ro
   have hp:H p=none:=h0 p zad
   have fp:om F' [a] p=none:=by
    by_cases m:p∈[a]
    ·exact oo m
    ·rw [di m];exact k2
   have hA:∀b∈[p],om F' [a] b=none:=fun b hb=>by rw [zac.mp hb];exact fp
   have E1:=(E.grow gl).frzO (A:=[p]) hA (fun b hb=>by rw [zac.mp hb];exact E.g.sH.free hp) (fun k us' p' e5 e6 m=>by
    rw [zac] at m
    subst m
    obtain⟨v2,g1,q2,ws2,rfl,g2,g3⟩:=E.sl k _ e5
    rw [e6] at g1
    cases g1
    rw [hp] at g2
    cases g2)
   exact q _ H' _ E1 (gl.sF.trans (iy hA)) ⟨p,ws,rfl,by rw [wY zad];exact k1,wk e4 k3⟩
  ·cases e1
 ·cases e1
end
end TM
set_option maxHeartbeats 4000000
namespace My
open PySem PySem.Spec PyProof.Rows L2 TM
variable {K:.l}
abbrev fQ (t:T):Option Sl:='0' t
abbrev br (n:Nat):T:=.int n
abbrev bM (i:Nat):FA:=ag (ae i) au
abbrev az (i:Int):FE:=fC (.j i)
def top (i:Nat):Stmt:=PySem.Challenge.pw_echohouse_k22_parts_tell.main.body.getD i (.Pass ⟨0,0,0,0⟩)
section
variable {P:.am}{w:World}{K:.l}{mg:.G}{base:Heap}{k:Nat}{f:Addr}{fd:.e5}
abbrev tw:Stmt:=top 13
def rD (n:Nat)(q0:.R):FS:=
  (aF (uw 0 1 (.e (ao rT (bM 0)) (ao rT (bM 1))))
  (aF (cU .dV (aF .eh
  (bZ .dV (kj (ao q0 (.o 0 1)) (bK (ay (ai 0) (.a 1 2)))) bH)) n)
  (aF (cU (cw (.a qg 1 0)) .eh n)
  (bj (ae 0)))))
theorem gL:aK ["one","other","factors"] .bS (ax tw):=by walk_at "sc"
theorem EA (n:Nat)(F:eK K "common" "common" tw f fd)(hb:Binds K fd .bS [])(hm:mg "common" = some (.c f))(q1:Def P w K mg base k "half" 2 q0)(q2:mg "abs" = none)(q3:mg "SHORT" = some (.int 4000 q4)):
  Def P w K mg base (k+1) "common" 2 (cg 3 2 (rD n q0)):=
 bP F gL hb hm fun cdv A outer s H E hr=>(aq (tV rfl gL.nd rfl rfl .f rfl rfl (.j (aY rO rfl q2 rfl (.f 0)) (aY rO rfl q2 rfl (.f 1))) rfl)
  (aq (mr n PassesOwn.never (.S (Di (.a 1)) q3) (aq (tV rfl gL.nd rfl rfl .f rfl rfl (.j (.a 1) (aI fw (.a 0) (.a 1))) rfl)
  (aw (cz (.S (Di (.a 1)) q3) (aw (nW (.f q1 (.j (.a 0) (.a 1))) (eA rfl (aU (aG 0 gL.nd rfl .p) (aU (aG 1 gL.nd rfl .p) (aU (aG 2 gL.nd rfl .p) cO))) (bh .bP)))) bE))))
  (aq (mr n PassesOwn.never (.t (.a 1) aj) (aw (tV rfl gL.nd rfl rfl .f rfl rfl (.j (.a 1) (aI fw (.a 0) (.a 1))) rfl)))
  (.D (.a 0)))))
abbrev MJ:Stmt:=top 14
abbrev nR:Stmt:=top 22
def rE:FS:=
  (bj (fy (ao bN (.c 0 (fC (.ty "int")))) (ux IY (ao bN (.c 0 (fC (.ty "bool")))))))
theorem Aw:aK ["thing"] ["thing"] (ax nR):=by walk_at "sc"
theorem Aa (F:eK K "is_whole" "is_whole" nR f fd)(hb:Binds K fd ["thing"] [])(hm:mg "is_whole" = some (.c f))(q5:mg "int" = none)(q6:.cO)(q7:mg "bool" = none):
  Def P w K mg base (k+1) "is_whole" 1 (cg 1 1 (rE)):=
 bP F Aw hb hm fun cdv A outer s H E hr=>(aw (aP (gj (.i 0 q5) (jD (MK (.i 0 q7))))))
abbrev jy:Stmt:=top 23
def jk (q8 q9:.R):FS:=
  (aF (.D (uq (iG (.ar 0)) (cw (ar qg (.h cn 0) (az 2)))) (fC .Q))
  (aF (kj (ae 0) (bK (.a 1 2)))
  (bj (fy (.h q8 1) (fy (.h q8 2) (fy (.a Og 2 1) (.Q eJ (ao q9 (.o 1 2)))))))))
theorem iN:aK ["thing","top","bottom"] ["thing"] (ax jy):=by walk_at "sc"
theorem sY (F:eK K "is_fraction" "is_fraction" jy f fd)(hb:Binds K fd ["thing"] [])(hm:mg "is_fraction" = some (.c f))(q10:Def P w K mg base k "is_whole" 1 q8)(q11:Def P w K mg base k "common" 2 q9)(q12:mg "tuple" = none)(q6:.cO)(q13:.dG):
  Def P w K mg base (k+1) "is_fraction" 1 (cg 3 1 (jk q8 q9)):=
 bP F iN hb hm fun cdv A outer s H E hr=>(aq (.J (jS (iO (cM (.i 0 q12))) (kS (.t .bJ aj))) (.D tN))
  (aq (nW (.a 0) (.X (aG 1 iN.nd rfl .p) (aU (aG 2 iN.nd rfl .p) cO)))
  (.D (gj (.p q10 1) (gj (.p q10 2) (gj (eU K4 (.a 2) aj (aX _)) (jD (eU .ah (.f q11 (.j (.a 1) (.a 2))) aj (aX _)))))))))
abbrev BQ:Stmt:=top 24
def A1 (q9:.R):FS:=
  (aF (bA 2 (ao q9 (.e .bh .b2)))
  (aF (bA 3 (ar aR (ar cG (.h 0) (ar eO (.h 1) (ae 2))) (ar cG .b8 (ar eO .bh (ae 2)))))
  (aF (bA 4 (ao q9 (.o 3 2)))
  (bj (cZ (.e (ar eO (ae 3) (ae 4)) (ar cG (ar eO .bh (ae 2)) (ar eO .b2 (ae 4)))))))))
theorem qY:aK ["one","other","shared","top","low"] .bS (ax BQ):=by walk_at "sc"
theorem JE (F:eK K "plus" "plus" BQ f fd)(hb:Binds K fd .bS [])(hm:mg "plus" = some (.c f))(q11:Def P w K mg base k "common" 2 q9):
  Def P w K mg base (k+1) "plus" 2 (cg 5 2 (A1 q9)):=
 bP F qY hb hm fun cdv A outer s H E hr=>(aq (bu 2 qY.nd rfl .p (aL q11 hr rfl (.j .O .e0) .dY))
  (aq (bu 3 qY.nd rfl .p (aI bp (aI dr .O (aI dY .e0 (.a 2))) (aI dr .e0 (aI dY .O (.a 2)))))
  (aq (bu 4 qY.nd rfl .p (.f q11 (.j (.a 3) (.a 2))))
  (aw (aP (dN (.j (aI dY (.a 3) (.a 4)) (aI dr (aI dY .O (.a 2)) (aI dY .e0 (.a 4))))))))))
abbrev yc:Stmt:=top 25
def qL (q14:.R):FS:=
  (bj (ao q14 (.e (ae 0) (cZ (ag (ux oC .b8) (.ay .b2))))))
theorem HC:aK .bS .bS (ax yc):=by walk_at "sc"
theorem G5 (F:eK K "minus" "minus" yc f fd)(hb:Binds K fd .bS [])(hm:mg "minus" = some (.c f))(q15:Def P w K mg base k "plus" 2 q14):
  Def P w K mg base (k+1) "minus" 2 (cg 2 2 (qL q14)):=
 bP F HC hb hm fun cdv A outer s H E hr=>(aw (aP (.f q15 (.j (.a 0) (dN (af (Dk yA .e0) (.ab .e0)))))))
abbrev yd:Stmt:=top 26
def wC (q9:.R):FS:=
  (aF (bA 2 (ao q9 (.e (.q bz (az 0)) .b2)))
  (aF (bA 3 (ao q9 (.e .b8 .bh)))
  (bj (cZ (.e (ar cG (ar eO (.q bz (az 0)) (ae 2)) (ar eO .b8 (ae 3))) (ar cG (ar eO .bh (ae 3)) (ar eO .b2 (ae 2))))))))
theorem tM:aK ["one","other","left","right"] .bS (ax yd):=by walk_at "sc"
theorem G6 (F:eK K "times" "times" yd f fd)(hb:Binds K fd .bS [])(hm:mg "times" = some (.c f))(q11:Def P w K mg base k "common" 2 q9):
  Def P w K mg base (k+1) "times" 2 (cg 4 2 (wC q9)):=
 bP F tM hb hm fun cdv A outer s H E hr=>(aq (bu 2 tM.nd rfl .p (aL q11 hr rfl (.j .O .e0) .dY))
  (aq (bu 3 tM.nd rfl .p (aL q11 hr rfl (.j .e0 .O) .dY))
  (aw (aP (dN (.j (aI dr (aI dY .O (.a 2)) (aI dY .e0 (.a 3))) (aI dr (aI dY .O (.a 3)) (aI dY .e0 (.a 2)))))))))
abbrev mj:Stmt:=top 27
def qa (q16:.R):FS:=
  (aF (bA 1 (vH (cw (ar Gm (.h 0) (az 0))) .cM (fC .dW)))
  (aF (bA 2 (.m q16 (ao rT (.ay (.h 0)))))
  (aF (.D (cw (.Q eJ .bh)) (.c aR 1 2))
  (bj (ar aR (ar aR (.c aR 1 2) (fC (.str "/"))) (.m q16 (.a bz 0 1)))))))
theorem kP:aK ["one","sign","top"] ["one"] (ax mj):=by walk_at "sc"
theorem xZ (F:eK K "show_frac" "show_frac" mj f fd)(hb:Binds K fd ["one"] [])(hm:mg "show_frac" = some (.c f))(q17:Def P w K mg base k "figures" 1 q16)(q2:mg "abs" = none):
  Def P w K mg base (k+1) "show_frac" 1 (cg 3 1 (qa q16)):=
 bP F kP hb hm fun cdv A outer s H E hr=>(aq (bu 1 kP.nd rfl .p (tP (bq G9 .O aj (aX _)) bg bg))
  (aq (bu 2 kP.nd rfl .p (aL q17 hr rfl (.ab (aY rO rfl q2 rfl (af .O ak))) .aq))
  (aq (cz (.r .O aj) (.D (.O (.a 1) 2)) bE)
  (.D (aI bp (aI bp (.O (.a 1) 2) bg) (aL q17 hr rfl (.ab .O) .aq))))))
abbrev pP:Stmt:=top 28
def vn (n:Nat):FS:=
  (aF (bX 1 au)
  (aF (cU (cw (.q Og (.aa 36))) (aF (kj (ao NQ (.c 0 (.aa 36))) (bK (.a 0 2)))
  (fS 1 (ar LH (.h lb 2) (az 36)))) n)
  (aF (fS 1 (.h lb 0))
  .dx)))
theorem kN:aK ["number","blocks","block"] ["number"] (ax pP):=by walk_at "sc"
theorem BK (n:Nat)(F:eK K "figures" "figures" pP f fd)(hb:Binds K fd ["number"] [])(hm:mg "figures" = some (.c f))(q18:mg "divmod" = none)(q19:mg "str" = none):
  Def P w K mg base (k+1) "figures" 1 (cg 3 1 (vn n)):=
 bP F kN hb hm fun cdv A outer s H E hr=>(aq (fZ 1 kN.nd rfl .p ak)
  (aq (mr n PassesOwn.never (bq K4 (.a 0) (aI ti aj aj) (aX _)) (aq (nW (aY NO rfl q18 rfl (.j (.a 0) (aI ti aj aj))) (.X (aG 0 kN.nd rfl .p) (aU (aG 2 kN.nd rfl .p) cO)))
  (aw (dZ 1 (pv 1) (gM PySem.F.slot_str_zfill PySem.F.type_str_zfill OE Ol (bQ rP rfl q19 rfl (.f 2)) aj)))))
  (aq (dZ 1 (pv 1) (bQ rP rfl q19 rfl (.f 0)))
  (.D (.az (EH 1 (pv 1) (mJ (Dk yA aj))))))))
abbrev mf:Stmt:=top 29
def iV (q20 q21 q22:.R):FS:=
  (aF (bZ (iG (cq (ao bN (.c 0 (fC (.ty "str")))))) gD bH)
  (aF (kj (.q qh (fC (.str "/"))) (bK (ay (ai 1) (.a 2 3))))
  (aF (bZ (iG (cq (ae 2))) (bA 3 (fC (.str "1"))) bH)
  (aF (bZ (uq (iG (cq (.m q20 (ar su (ae 1) .cM)))) (iG (cq (.h q20 3)))) gD bH)
  (aF (bA 4 (cZ (.e (ao gg (bM 1)) (ao gg (bM 3)))))
  (aF (bZ (uq (iG (cq (.h q21 4))) (cw (ar qg (.h q22 4) (ae 0)))) gD bH)
  (bj (ae 4))))))))
theorem fq:aK ["text","top","stroke","bottom","one"] ["text"] (ax mf):=by walk_at "sc"
theorem xW (F:eK K "read_frac" "read_frac" mf f fd)(hb:Binds K fd ["text"] [])(hm:mg "read_frac" = some (.c f))(q23:Def P w K mg base k "is_figures" 1 q20)(q24:Def P w K mg base k "is_fraction" 1 q21)(q25:Def P w K mg base k "show_frac" 1 q22)(q19:mg "str" = none)(q6:.cO)(q5:mg "int" = none):
  Def P w K mg base (k+1) "read_frac" 1 (cg 5 1 (iV q20 q21 q22)):=
 bP F fq hb hm fun cdv A outer s H E hr=>(aq (cz (iO (cM (.i 0 q19))) (aw gW) bE)
  (aq (nW (gM PySem.F.slot_str_partition PySem.F.type_str_partition Jw Jc (.a 0) bg) (eA rfl (aU (aG 1 fq.nd rfl .p) (aU (aG 2 fq.nd rfl .p) (aU (aG 3 fq.nd rfl .p) cO))) (bh .bP)))
  (aq (cz (iO (cM (.a 2))) (aw (bu 3 fq.nd rfl .p bg)) bE)
  (aq (.J (jS (iO (cM (aL q23 hr rfl (.ab (gM zbB zbC GU Gw (.a 1) bg)) .aq))) (kS (iO (cM (.p q23 3))))) (aw gW))
  (aq (bu 4 fq.nd rfl .p (dN (.j (bQ qO rfl q5 rfl (.f 1)) (bQ qO rfl q5 rfl (.f 3)))))
  (aq (.J (jS (iO (cM (.p q24 4))) (kS (bq (lS hr.units) (.p q25 4) (.a 0) (aX _)))) (aw gW))
  (.D (.a 4))))))))
theorem qB:(["sign"]:List Str).Nodup:=.c
abbrev kK:Stmt:=top 30
def og:FS:=
  (bj (fy (.ad 30) (.m mP (.L (so (ae 0)) (ar qw (ae 0) (fC  .eo ))))))
theorem ve:aK ["text"] ["text"] (ax kK):=by walk_at "sc"
theorem uX (F:eK K "is_figures" "is_figures" kK f fd)(hb:Binds K fd ["text"] [])(hm:mg "is_figures" = some (.c f))(q13:.dG)(q26:mg "all" = none)(q27:mg "MOST_FIGURES" = some (.int 30 q28)):
  Def P w K mg base (k+1) "is_figures" 1 (cg 1 1 (og)):=
 bP F ve hb hm fun cdv A outer s H E hr=>(aw (aP (gj (Ax qm qm aj .bJ (eV rfl q27)) (jD (aY (wM rfl) rfl q26 rfl (.ab (cN (N':=["sign"]) (no:=1) (cap:=[]) rfl rfl .et rfl .er (HJ (.a 0)) (fun _ _ _ _ _ _=>(aG 0 qB rfl .p)) .bA (fun _ _ _ _ _ _=>(eU G7 (.a 0) bg rfl)))))))))
abbrev lX:Stmt:=inClass (top 32) 0
def p9:FS:=
  (bj (fC .dW))
theorem yh:aK .an .an (ax lX):=by walk_at "sc"
theorem uQ {C:Addr}(F:eK K "row" "Part.row" lX f fd)(hb:.ci)(cl:eC K C)(hm:Meth K C "row" f):
  cV P w K mg base (k+1) C "row" 1 (cg 1 1 (p9)):=
 dm F yh hb cl hm fun cdv A outer s H E hr=>(aw (aP bg))
abbrev jw:Stmt:=inClass (top 32) 1
def mW:FS:=
  (bj (cZ au))
theorem tL:aK .an .an (ax jw):=by walk_at "sc"
theorem kZ {C:Addr}(F:eK K "wants" "Part.wants" jw f fd)(hb:.ci)(cl:eC K C)(hm:Meth K C "wants" f):
  cV P w K mg base (k+1) C "wants" 1 (cg 1 1 (mW)):=
 dm F tL hb cl hm fun cdv A outer s H E hr=>(aw (aP (dN ak)))
abbrev jv:Stmt:=inClass (top 32) 2
def mV:FS:=
  (bj .eZ)
theorem tK:aK .ad .ad (ax jv):=by walk_at "sc"
theorem qG {C:Addr}(F:eK K "tells" "Part.tells" jv f fd)(hb:Binds K fd .ad [])(cl:eC K C)(hm:Meth K C "tells" f)(q29:mg "NOUGHT" = some (.c q30))(q31:K.lookup q30=some ⟨.type "tuple", q32,.seq #[.int (0) q33,.int (1) q34] q35,q36⟩):
  cV P w K mg base (k+1) C "tells" 2 (cg 2 2 (mV)):=
 dm F tK hb cl hm fun cdv A outer s H E hr=>(aw (aP (Az rfl q29 q31)))
abbrev iK:Stmt:=inClass (top 33) 0
def gc:Addr->FI:=
  (lg "name" (ae 1)
  Bq)
theorem qJ:aK ["self","name"] ["self","name"] (ax iK):=by walk_at "sc"
theorem L3 {C:Addr}{cx:Str}(F:eK K "__init__" "In.__init__" iK f fd)(hb:Binds K fd ["self","name"] [])(cl:eC K C)(M:Mk K C f)(hm:.e6)(q37:bo K C "name"):
  gx P w K mg base (k+2) cx C 1 (dI 2 1 (gc)):=
 mG F qJ hb M hm rfl fun cdv A outer s H E hr=>(eB cl q37 (pv 0) (.a 1)
  mI)
abbrev pO:Stmt:=inClass (top 33) 1
def vm (q38 q39 q40 q41:Addr):FS:=
  (bj (yZ [(fC (.str "in ")),(vg .bY)]))
theorem BR:aK .an .an (ax pO):=by walk_at "sc"
theorem zW {C:Addr}(F:eK K "row" "In.row" pO f fd)(hb:.ci)(cl:eC K C)(hm:Meth K C "row" f)(hf_name:∀C∈[q38,q39,q40,q41],eC K C/\bo K C "name"):
  cV P w K mg base (k+1) C "row" 1 (cg 1 1 (vm q38 q39 q40 q41)):=
 dm F BR hb cl hm fun cdv A outer s H E hr=>(aw (aP (qZ (eM bg (eM (nU (.af 0)) yp)))))
abbrev lW:Stmt:=inClass (top 33) 2
def p8 (q38 q39 q40 q41:Addr):FS:=
  (bj (ar fG (ae 1) .bY))
theorem yg:aK .ad .ad (ax lW):=by walk_at "sc"
theorem uP {C:Addr}(F:eK K "tells" "In.tells" lW f fd)(hb:Binds K fd .ad [])(cl:eC K C)(hm:Meth K C "tells" f)(hf_name:∀C∈[q38,q39,q40,q41],eC K C/\bo K C "name"):
  cV P w K mg base (k+1) C "tells" 2 (cg 2 2 (p8 q38 q39 q40 q41)):=
 dm F yg hb cl hm fun cdv A outer s H E hr=>(aw (aP (.G (.af 0) .v)))
abbrev gG:Stmt:=inClass (top 34) 0
def eW:Addr->FI:=
  (lg "name" (ae 1)
  (lg "source" (ae 2)
  Bq))
theorem oQ:aK .eW .eW (ax gG):=by walk_at "sc"
theorem G3 {C:Addr}{cx:Str}(F:eK K "__init__" "Cell.__init__" gG f fd)(hb:Binds K fd .eW [])(cl:eC K C)(M:Mk K C f)(hm:.e6)(q37:bo K C "name")(q42:bo K C "source"):
  gx P w K mg base (k+2) cx C 2 (dI 3 2 (eW)):=
 mG F oQ hb M hm rfl fun cdv A outer s H E hr=>(eB cl q37 (pv 0) (.a 1)
  (eB cl q42 (pv 0) (.a 2)
  mI))
abbrev lU:Stmt:=inClass (top 34) 1
def p0 (q38 q39 q40 q41 q43:Addr):FS:=
  (bj (yZ [(fC (.str "cell ")),(vg .bY),.dE,(vg .aU)]))
theorem ye:aK .an .an (ax lU):=by walk_at "sc"
theorem uN {C:Addr}(F:eK K "row" "Cell.row" lU f fd)(hb:.ci)(cl:eC K C)(hm:Meth K C "row" f)(hf_name:∀C∈[q38,q39,q40,q41],eC K C/\bo K C "name")(hf_source:∀C∈[q39,q40,q43],eC K C/\bo K C "source"):
  cV P w K mg base (k+1) C "row" 1 (cg 1 1 (p0 q38 q39 q40 q41 q43)):=
 dm F ye hb cl hm fun cdv A outer s H E hr=>(aw (aP (qZ (eM bg (eM (nU (.af 0)) (eM bg (eM (nU .cv) yp)))))))
abbrev js:Stmt:=inClass (top 34) 2
def mS (q39 q40 q43:Addr):FS:=
  (bj (cZ (.ay .aU)))
theorem tF:aK .an .an (ax js):=by walk_at "sc"
theorem qD {C:Addr}(F:eK K "wants" "Cell.wants" js f fd)(hb:.ci)(cl:eC K C)(hm:Meth K C "wants" f)(hf_source:∀C∈[q39,q40,q43],eC K C/\bo K C "source"):
  cV P w K mg base (k+1) C "wants" 1 (cg 1 1 (mS q39 q40 q43)):=
 dm F tF hb cl hm fun cdv A outer s H E hr=>(aw (aP (dN (.ab .cv))))
abbrev jr:Stmt:=inClass (top 34) 3
def mR (q39 q40 q43:Addr):FS:=
  (bj (ar fG (ae 1) .aU))
theorem tD:aK .ad .ad (ax jr):=by walk_at "sc"
theorem qC {C:Addr}(F:eK K "tells" "Cell.tells" jr f fd)(hb:Binds K fd .ad [])(cl:eC K C)(hm:Meth K C "tells" f)(hf_source:∀C∈[q39,q40,q43],eC K C/\bo K C "source"):
  cV P w K mg base (k+1) C "tells" 2 (cg 2 2 (mR q39 q40 q43)):=
 dm F tD hb cl hm fun cdv A outer s H E hr=>(aw (aP (gm hr.units (.a 1) .cv .v)))
abbrev gH:Stmt:=inClass (top 35) 0
def eX:Addr->FI:=
  (lg "name" (ae 1)
  (lg "by" (ae 2)
  (lg "source" (ae 3)
  Bq)))
theorem oR:aK .dN .dN (ax gH):=by walk_at "sc"
theorem G4 {C:Addr}{cx:Str}(F:eK K "__init__" "Gain.__init__" gH f fd)(hb:Binds K fd .dN [])(cl:eC K C)(M:Mk K C f)(hm:.e6)(q37:bo K C "name")(q44:bo K C "by")(q42:bo K C "source"):
  gx P w K mg base (k+2) cx C 3 (dI 4 3 (eX)):=
 mG F oR hb M hm rfl fun cdv A outer s H E hr=>(eB cl q37 (pv 0) (.a 1)
  (eB cl q44 (pv 0) (.a 2)
  (eB cl q42 (pv 0) (.a 3)
  mI)))
abbrev lV:Stmt:=inClass (top 35) 1
def p7 (q38 q39 q40 q41 q43:Addr)(q22:.R):FS:=
  (bj (yZ [(fC (.str "gain ")),(vg .bY),.dE,(vg (.m q22 (cS [q40] "by" (ae 0)))),.dE,(vg .aU)]))
theorem yf:aK .an .an (ax lV):=by walk_at "sc"
theorem uO {C:Addr}(F:eK K "row" "Gain.row" lV f fd)(hb:.ci)(cl:eC K C)(hm:Meth K C "row" f)(q25:Def P w K mg base k "show_frac" 1 q22)(hf_name:∀C∈[q38,q39,q40,q41],eC K C/\bo K C "name")(hf_by:∀C∈[q40],eC K C/\bo K C "by")(hf_source:∀C∈[q39,q40,q43],eC K C/\bo K C "source"):
  cV P w K mg base (k+1) C "row" 1 (cg 1 1 (p7 q38 q39 q40 q41 q43 q22)):=
 dm F yf hb cl hm fun cdv A outer s H E hr=>(aw (aP (qZ (eM bg (eM (nU (.af 0)) (eM bg (eM (nU (aL q25 hr rfl (.ab (bU hf_by (.a 0))) .aq)) (eM bg (eM (nU .cv) yp)))))))))
abbrev ju:Stmt:=inClass (top 35) 2
def mU (q39 q40 q43:Addr):FS:=
  (bj (cZ (.ay .aU)))
theorem tJ:aK .an .an (ax ju):=by walk_at "sc"
theorem qF {C:Addr}(F:eK K "wants" "Gain.wants" ju f fd)(hb:.ci)(cl:eC K C)(hm:Meth K C "wants" f)(hf_source:∀C∈[q39,q40,q43],eC K C/\bo K C "source"):
  cV P w K mg base (k+1) C "wants" 1 (cg 1 1 (mU q39 q40 q43)):=
 dm F tJ hb cl hm fun cdv A outer s H E hr=>(aw (aP (dN (.ab .cv))))
abbrev jt:Stmt:=inClass (top 35) 3
def mT (q40 q39 q43:Addr)(q45:.R):FS:=
  (bj (ao q45 (.e (cS [q40] "by" (ae 0)) (ar fG (ae 1) .aU))))
theorem tH:aK .ad .ad (ax jt):=by walk_at "sc"
theorem qE {C:Addr}(F:eK K "tells" "Gain.tells" jt f fd)(hb:Binds K fd .ad [])(cl:eC K C)(hm:Meth K C "tells" f)(q46:Def P w K mg base k "times" 2 q45)(hf_by:∀C∈[q40],eC K C/\bo K C "by")(hf_source:∀C∈[q39,q40,q43],eC K C/\bo K C "source"):
  cV P w K mg base (k+1) C "tells" 2 (cg 2 2 (mT q40 q39 q43 q45)):=
 dm F tH hb cl hm fun cdv A outer s H E hr=>(aw (aP (.f q46 (.j (bU hf_by (.a 0)) (gm hr.units (.a 1) .cv .v)))))
abbrev hR:Stmt:=inClass (top 36) 0
def fM:Addr->FI:=
  (lg "name" (ae 1)
  (lg "terms" (ae 2)
  Bq))
theorem pS:aK .fe .fe (ax hR):=by walk_at "sc"
theorem JD {C:Addr}{cx:Str}(F:eK K "__init__" "Sum.__init__" hR f fd)(hb:Binds K fd .fe [])(cl:eC K C)(M:Mk K C f)(hm:.e6)(q37:bo K C "name")(q47:bo K C "terms"):
  gx P w K mg base (k+2) cx C 2 (dI 3 2 (fM)):=
 mG F pS hb M hm rfl fun cdv A outer s H E hr=>(eB cl q37 (pv 0) (.a 1)
  (eB cl q47 (pv 0) (.a 2)
  mI))
theorem m7:(["sign","name"]:List Str).Nodup:=.c
abbrev nN:Stmt:=inClass (top 36) 1
def jW (q38 q39 q40 q41:Addr):FS:=
  (bj (ar cX .dE (ar aR (eR (.e .cV .bY)) (bF 2 [] (aZ (cS [q41] "terms" (ae 0))) .a1 aS .eA))))
theorem Au:aK .an .an (ax nN):=by walk_at "sc"
theorem xQ {C:Addr}(F:eK K "row" "Sum.row" nN f fd)(hb:.ci)(cl:eC K C)(hm:Meth K C "row" f)(hf_name:∀C∈[q38,q39,q40,q41],eC K C/\bo K C "name")(hf_terms:∀C∈[q41],eC K C/\bo K C "terms"):
  cV P w K mg base (k+1) C "row" 1 (cg 1 1 (jW q38 q39 q40 q41)):=
 dm F Au hb cl hm fun cdv A outer s H E hr=>(aw (aP (.az (aI bp (hW (.j bg (.af 0))) (cN (N':=["sign","name"]) (no:=2) (cap:=[]) rfl rfl .et rfl .er (cL (bU hf_terms (.a 0))) (.H (.l m7)) .bA (fun _ _ _ _ _ _=>(tP (.r (.a 0) aj) (.a 1) (.O bg 1))))))))
theorem kW:(["sign","name"]:List Str).Nodup:=.c
abbrev kB:Stmt:=inClass (top 36) 2
def ic (q41:Addr):FS:=
  (bj (.m gh (bF 2 [] (aZ (cS [q41] "terms" (ae 0))) (bK  (.a 0 1) ) aS (ae 1))))
theorem vb:aK .an .an (ax kB):=by walk_at "sc"
theorem sV {C:Addr}(F:eK K "wants" "Sum.wants" kB f fd)(hb:.ci)(cl:eC K C)(hm:Meth K C "wants" f)(hf_terms:∀C∈[q41],eC K C/\bo K C "terms")(q12:mg "tuple" = none):
  cV P w K mg base (k+1) C "wants" 1 (cg 1 1 (ic q41)):=
 dm F vb hb cl hm fun cdv A outer s H E hr=>(aw (aP (bQ gf rfl q12 rfl (.ab (cN (N':=["sign","name"]) (no:=2) (cap:=[]) rfl rfl .et rfl .er (cL (bU hf_terms (.a 0))) (.H (.l kW)) .bA (fun _ _ _ _ _ _=>(aa 1 (pv 1))))))))
abbrev kA:Stmt:=inClass (top 36) 3
def ib (q41:Addr)(q14 q48:.R):FS:=
  (aF (bA 2 .eZ)
  (aF (fz (aZ (cS [q41] "terms" (ae 0))) .fm (bA 2 (vH (cw (.a eJ 3 1)) (ao q14 (.c 2 (.c fG 1 4))) (ao q48 (.c 2 (.c fG 1 4))))))
  (bj (ae 2))))
theorem fI:aK ["self","values","total","sign","name"] .ad (ax kA):=by walk_at "sc"
theorem sU {C:Addr}(F:eK K "tells" "Sum.tells" kA f fd)(hb:Binds K fd .ad [])(cl:eC K C)(hm:Meth K C "tells" f)(q15:Def P w K mg base k "plus" 2 q14)(q49:Def P w K mg base k "minus" 2 q48)(hf_terms:∀C∈[q41],eC K C/\bo K C "terms")(q29:mg "NOUGHT" = some (.c q30))(q31:K.lookup q30=some ⟨.type "tuple", q32,.seq #[.int (0) q33,.int (1) q34] q35,q36⟩):
  cV P w K mg base (k+1) C "tells" 2 (cg 5 2 (ib q41 q14 q48)):=
 dm F fI hb cl hm fun cdv A outer s H E hr=>(aq (bu 2 fI.nd rfl .p (Az rfl q29 q31))
  (aq (fW PassesOwn.never rfl (cL (bU hf_terms (.a 0))) (.X (aG 3 fI.nd rfl .p) (aU (aG 4 fI.nd rfl .p) cO)) (aw (bu 2 fI.nd rfl .p (tP (.r (.a 3) aj) (.f q15 (.j (.a 2) (.G (.a 4) .v))) (.f q49 (.j (.a 2) (.G (.a 4) .v)))))))
  (.D (.a 2))))
abbrev hJ:Stmt:=inClass (top 37) 0
def fL:Addr->FI:=
  (lg "source" (ae 1)
  Bq)
theorem pR:aK ["self","source"] ["self","source"] (ax hJ):=by walk_at "sc"
theorem JC {C:Addr}{cx:Str}(F:eK K "__init__" "Out.__init__" hJ f fd)(hb:Binds K fd ["self","source"] [])(cl:eC K C)(M:Mk K C f)(hm:.e6)(q42:bo K C "source"):
  gx P w K mg base (k+2) cx C 1 (dI 2 1 (fL)):=
 mG F pR hb M hm rfl fun cdv A outer s H E hr=>(eB cl q42 (pv 0) (.a 1)
  mI)
abbrev nM:Stmt:=inClass (top 37) 1
def rC (q39 q40 q43:Addr):FS:=
  (bj (yZ [(fC (.str "out ")),(vg .aU)]))
theorem Ar:aK .an .an (ax nM):=by walk_at "sc"
theorem xO {C:Addr}(F:eK K "row" "Out.row" nM f fd)(hb:.ci)(cl:eC K C)(hm:Meth K C "row" f)(hf_source:∀C∈[q39,q40,q43],eC K C/\bo K C "source"):
  cV P w K mg base (k+1) C "row" 1 (cg 1 1 (rC q39 q40 q43)):=
 dm F Ar hb cl hm fun cdv A outer s H E hr=>(aw (aP (qZ (eM bg (eM (nU .cv) yp)))))
abbrev kz:Stmt:=inClass (top 37) 2
def oa (q39 q40 q43:Addr):FS:=
  (bj (cZ (.ay .aU)))
theorem va:aK .an .an (ax kz):=by walk_at "sc"
theorem sT {C:Addr}(F:eK K "wants" "Out.wants" kz f fd)(hb:.ci)(cl:eC K C)(hm:Meth K C "wants" f)(hf_source:∀C∈[q39,q40,q43],eC K C/\bo K C "source"):
  cV P w K mg base (k+1) C "wants" 1 (cg 1 1 (oa q39 q40 q43)):=
 dm F va hb cl hm fun cdv A outer s H E hr=>(aw (aP (dN (.ab .cv))))
abbrev ky:Stmt:=inClass (top 37) 3
def n9 (q39 q40 q43:Addr):FS:=
  (bj (ar fG (ae 1) .aU))
theorem uZ:aK .ad .ad (ax ky):=by walk_at "sc"
theorem sS {C:Addr}(F:eK K "tells" "Out.tells" ky f fd)(hb:Binds K fd .ad [])(cl:eC K C)(hm:Meth K C "tells" f)(hf_source:∀C∈[q39,q40,q43],eC K C/\bo K C "source"):
  cV P w K mg base (k+1) C "tells" 2 (cg 2 2 (n9 q39 q40 q43)):=
 dm F uZ hb cl hm fun cdv A outer s H E hr=>(aw (aP (gm hr.units (.a 1) .cv .v)))
theorem lh:(["part"]:List Str).Nodup:=.c
theorem lj:(["part"]:List Str).Nodup:=.c
theorem ll:(["part"]:List Str).Nodup:=.c
abbrev fV:Stmt:=inClass (top 47) 0
def ei (q50 q38 q39 q40 q41 q43 q51:Addr)(q52 q53 q54 q55:.R):Addr->FI:=
  (Ek (bA 2 (.h q52 1))
  (Ek (vG (.h q53 2))
  (Ek (vG (.h q54 2))
  (lg "whole" (ae 1)
  (lg "all_parts" (.h gh 2)
  (lg "in_parts" (.m gh (.x (ae 2) (fA [(q50,false),(q38,true),(q39,false),(q40,false),(q41,false),(q43,false),(q51,false)] (ae 0))))
  (lg "cell_parts" (.m gh (.x (ae 2) (.B (q39,true) (q43,false))))
  (lg "out_parts" (.m gh (.x (ae 2) (.B (q39,false) (q43,true))))
  (lg "inner_parts" (.m gh (.h q55 2))
  Bq)))))))))
theorem ia:aK ["self","text","parts"] ["self","text"] (ax fV):=by walk_at "sc"
theorem BJ {C:Addr}{cx:Str}(F:eK K "__init__" "Wiring.__init__" fV f fd)(hb:Binds K fd ["self","text"] [])(cl:eC K C)(M:Mk K C f)(hm:.e6)(q56:bo K C "whole")(q57:bo K C "all_parts")(q58:bo K C "in_parts")(q59:bo K C "cell_parts")(q60:bo K C "out_parts")(q61:bo K C "inner_parts")(q62:Def P w K mg base k "read_parts" 1 q52)(q63:Def P w K mg base k "refuse_names" 1 q53)(q64:Def P w K mg base k "refuse_counts" 1 q54)(q65:Def P w K mg base k "in_order" 1 q55)(hi_In:∀a∈[(q50,false),(q38,true),(q39,false),(q40,false),(q41,false),(q43,false),(q51,false)],iA K q38 a.1 a.2)(hi_Cell:∀a∈[(q50,false),(q38,false),(q39,true),(q40,false),(q41,false),(q43,false),(q51,false)],iA K q39 a.1 a.2)(hi_Out:∀a∈[(q50,false),(q38,false),(q39,false),(q40,false),(q41,false),(q43,true),(q51,false)],iA K q43 a.1 a.2)(q66:mg "Cell" = some (.c q39))(q67:mg "In" = some (.c q38))(q68:mg "Out" = some (.c q43))(q12:mg "tuple" = none)(q6:.cO):
  gx P w K mg base (k+2) cx C 1 (dI 3 1 (ei q50 q38 q39 q40 q41 q43 q51 q52 q53 q54 q55)):=
 mG F ia hb M hm rfl fun cdv A outer s H E hr=>(yo (bu 2 ia.nd rfl .p (.p q62 1))
  (yo (DA (.p q63 2))
  (yo (DA (.p q64 2))
  (eB cl q56 (pv 0) (.a 1)
  (eB cl q57 (pv 0) (.ap (.f 2))
  (eB cl q58 (pv 0) (.ap (.y (fun _ _ _ _ _ _=>(aG 0 lh rfl .p)) (.Z (.I hi_In q67))))
  (eB cl q59 (pv 0) (.ap (.y (fun _ _ _ _ _ _=>(aG 0 lj rfl .p)) (.Z (.I hi_Cell q66))))
  (eB cl q60 (pv 0) (.ap (.y (fun _ _ _ _ _ _=>(aG 0 ll rfl .p)) (.Z (.I hi_Out q68))))
  (eB cl q61 (pv 0) (.ap (.ab (.p q65 2)))
  mI)))))))))
abbrev hU:Stmt:=inClass (top 47) 2
def fN (q51:Addr):FS:=
  (bj (.m dList (cS [q51] "all_parts" (ae 0))))
theorem pT:aK .an .an (ax hU):=by walk_at "sc"
theorem oK {C:Addr}(F:eK K "parts" "Wiring.parts" hU f fd)(hb:.ci)(cl:eC K C)(hm:Meth K C "parts" f)(hf_all_parts:∀C∈[q51],eC K C/\bo K C "all_parts")(q69:mg "list" = none):
  cV P w K mg base (k+1) C "parts" 1 (cg 1 1 (fN q51)):=
 dm F pT hb cl hm fun cdv A outer s H E hr=>(aw (aP (bQ IE rfl q69 rfl (.ab (bU hf_all_parts (.a 0))))))
abbrev kL:Stmt:=top 48
def iq (q70:.R):FS:=
  (aF (bX 1 au)
  (aF (fz (km (.ay (.q hG (fC (.str "\n"))))) (bK (.a 2 3)) (aF (bA 4 (.h q70 3))
  (aF (bZ (cw (ar Nn (ae 4) (fC .non))) gD bH)
  (fS 1 (ae 4)))))
  (bj (ae 1))))
theorem fK : aK ["text","parts","place","row","part"] ["text"] (ax kL) := by walk_at "sc"
theorem uY (F : eK K "read_parts" "read_parts" kL f fd)(hb : Binds K fd ["text"] [])(hm : mg "read_parts" = some (.c f))(q71 : Def P w K mg base k "read_part" 1 q70)(q72 : mg "enumerate" = none):
  Def P w K mg base (k+1) "read_parts" 1 (cg 5 1 (iq q70)) :=
 bP F fK hb hm fun cdv A outer s H E hr => (aq (fZ 1 fK.nd rfl .p ak)
  (aq (fW PassesOwn.never rfl (Dt rfl q72 (.ab (gM PySem.F.slot_str_split PySem.F.type_str_split zT zr (.a 0) bg))) (.X (aG 2 fK.nd rfl .p) (aU (aG 3 fK.nd rfl .p) cO)) (aq (bu 4 fK.nd rfl .p (.p q71 3))
  (aq (cz (bq OO (.a 4) nV (aX _)) (aw gW) bE)
  (aw (dZ 1 (pv 1) (.a 4))))))
  (.D (.a 1))))
abbrev mi : Stmt := top 49
def iX (q38 q39 q43 : Addr)(q73 q74 q75 : List T->Option T)(dI_In dI_Cell dI_Out : List T->Option rh): FS :=
  (aF (kj (.q hG .dE) (w8 (.a 1 2)))
  (aF (.D (ki (.u (ae 1) .dQ) (cq (ao q73 (.c 2 (az 1))))) (hX q38 dI_In (.ay (.a bz 2 0))))
  (aF (.D (ki (.u (ae 1) (fC (.str "cell"))) (cq (ao q73 (.e (ae 2) (az 2))))) (hX q39 dI_Cell (.e (.a bz 2 0) (.a bz 2 1))))
  (aF (.D (ki (.u (ae 1) .fE) (.u (.h cn 2) (az 3))) (ao q74 (ag (.a bz 2 0) (.e (.a bz 2 1) (ar bz (ae 2) (az 2))))))
  (aF (.D (ki (.u (ae 1) (fC (.str "sum"))) (cw (gZ uz uz (az 2) (.h cn 2) (.Q aR (az 4))))) (ao q75 (.e (.a bz 2 0) (yJ (ae 2) (dU (az 1)) fj))))
  (aF (.D (ki (.u (ae 1) (fC (.str "out"))) (cq (ao q73 (.c 2 (az 1))))) (hX q43 dI_Out (.ay (.a bz 2 0))))
  (bj (fC .non))))))))
theorem kO : aK ["row","word","words"] ["row"] (ax mi) := by walk_at "sc"
theorem xY (F : eK K "read_part" "read_part" mi f fd)(hb : Binds K fd ["row"] [])(hm : mg "read_part" = some (.c f))(q76 : Def P w K mg base k "are_names" 2 q73)(q77 : Def P w K mg base k "read_gain" 3 q74)(q78 : Def P w K mg base k "read_sum" 2 q75)(DI_In : gx P w K mg base k "In" q38 1 dI_In)(DI_Cell : gx P w K mg base k "Cell" q39 2 dI_Cell)(DI_Out : gx P w K mg base k "Out" q43 1 dI_Out)(q13 : mg "len" = none)(q79 : mg "MOST_TERMS" = some (.int 4 q80)):
  Def P w K mg base (k+1) "read_part" 1 (cg 3 1 (iX q38 q39 q43 q73 q74 q75 dI_In dI_Cell dI_Out)) :=
 bP F kO hb hm fun cdv A outer s H E hr => (aq (nW (gM PySem.F.slot_str_split PySem.F.type_str_split zT zr (.a 0) bg) (Ka rfl (aU (aG 1 kO.nd rfl .p) (aU (aG 2 kO.nd rfl .p) cO))))
  (aq (.U (gn DI_In hr rfl (.ab (.e (.a 2))) .aq))
  (aq (.U (gn DI_Cell hr rfl (.j (.ai 2) (.ai 2)) .dY))
  (aq (.J (mw (.r (.a 1) bg) (jg (.r (.L (.f 2)) aj))) (.D (aL q77 hr rfl (af (.ai 2) (.j (.ai 2) (.ai 2))) (ah .dY))))
  (aq (.J (mw (.r (.a 1) bg) (jg (HN qm qm aj (.L (.f 2)) (aI bp (eV rfl q79) aj)))) (.D (aL q78 hr rfl (.j (.ai 2) (oV (.a 2) (mJ aj) yr)) .dY)))
  (aq (.U (gn DI_Out hr rfl (.ab (.e (.a 2))) .aq))
  (.D nV)))))))
abbrev mh : Stmt := top 50
def iW (q40 : Addr)(q81 q73 : List T->Option T)(dI_Gain : List T->Option rh): FS :=
  (aF (bA 3 (.h q81 1))
  (bj (vH (ki (cw (ar wZ (ae 3) (fC .non))) (cq (ao q73 (.e (eR (.o 0 2)) (az 2))))) (hX q40 dI_Gain (ag (ae 0) (.o 3 2))) (fC .non))))
theorem oU : aK ["name","number","source","by"] ["name","number","source"] (ax mh) := by walk_at "sc"
theorem xX (F : eK K "read_gain" "read_gain" mh f fd)(hb : Binds K fd ["name","number","source"] [])(hm : mg "read_gain" = some (.c f))(q82 : Def P w K mg base k "read_factor" 1 q81)(q76 : Def P w K mg base k "are_names" 2 q73)(DI_Gain : gx P w K mg base k "Gain" q40 3 dI_Gain):
  Def P w K mg base (k+1) "read_gain" 3 (cg 4 3 (iW q40 q81 q73 dI_Gain)) :=
 bP F oU hb hm fun cdv A outer s H E hr => (aq (bu 3 oU.nd rfl .p (.p q82 1))
  (.D (tP (SW.st (mw (bq G8 (.a 3) nV (aX _)) (jg (cM (.f q76 (.j (hW (af (.a 0) (.ab (.a 2)))) aj)))))) (gn DI_Gain hr rfl (af (.a 0) (af (.a 3) (.f 2))) (ah .dY)) nV)))
abbrev jz : Stmt := top 51
def gP (q83 : Addr)(q84 : List T->Option T): FS :=
  (aF (FN (bA 1 (.h q84 0))
  N4
  (CD [(q83, true)] (bj (fC .non)) KJ))
  (bj (vH (ki (cw (ar uz (.m rT .b8) (az 99))) (cw (ar uz (.h 1) (az 12)))) (ae 1) (fC .non))))
theorem ml : aK ["text","by"] ["text"] (ax jz) := by walk_at "sc"
theorem sZ (F : eK K "read_factor" "read_factor" jz f fd)(hb : Binds K fd ["text"] [])(hm : mg "read_factor" = some (.c f))(q85 : Def P w K mg base k "read_frac" 1 q84)(q86 : AW K q83 [(q83, true)])(q87 : mg "NoFraction" = some (.c q83))(q2 : mg "abs" = none)(q88 : mg "GREATEST_TOP" = some (.int 99 q89))(q90 : mg "GREATEST_BOTTOM" = some (.int 12 q91)):
  Def P w K mg base (k+1) "read_factor" 1 (cg 2 1 (gP q83 q84)) :=
 bP F ml hb hm fun cdv A outer s H E hr => (aq (MS (fun _ _ z => z) rfl rfl
  (aw (bu 1 ml.nd rfl .p (.p q85 0)))
  MT
  (HI rfl q87 q86 (fun _ => (.D nV)) MN))
  (.D (tP (SW.st (mw (bq qm (aY rO rfl q2 rfl (.ab (.e (.a 1)))) (eV rfl q88) (aX _)) (jg (bq qm (.ai 1) (eV rfl q90) (aX _))))) (.a 1) nV)))
theorem uM : (["word"] : List Str).Nodup := by decide +kernel
theorem nc : (["sign","source"] : List Str).Nodup := by decide +kernel
abbrev nS : Stmt := top 52
def kc (q41 : Addr)(q73 : List T->Option T)(dI_Sum : List T->Option rh): FS :=
  (aF (bA 2 (.m gh (bF 1 [] (aZ (ae 1)) (ai 0) aS (cZ (.e (vH (cq (ar Ip (ae 0) .cM)) .d1 (az 1)) (ar su (ae 0) .cM))))))
  (bj (vH (cq (ao q73 (.e (ar aR (eR (bM 0)) (bF 2 [] (aZ (ae 2)) .a1 aS (ae 1))) (.Q aR (ao cn (bM 2)))))) (hX q41 dI_Sum (.o 0 2)) (fC .non))))
theorem qo : aK ["name","words","terms"] ["name","words"] (ax nS) := by walk_at "sc"
theorem Ab (F : eK K "read_sum" "read_sum" nS f fd)(hb : Binds K fd ["name","words"] [])(hm : mg "read_sum" = some (.c f))(q76 : Def P w K mg base k "are_names" 2 q73)(DI_Sum : gx P w K mg base k "Sum" q41 2 dI_Sum)(q12 : mg "tuple" = none)(q13 : mg "len" = none):
  Def P w K mg base (k+1) "read_sum" 2 (cg 3 2 (kc q41 q73 dI_Sum)) :=
 bP F qo hb hm fun cdv A outer s H E hr => (aq (bu 2 qo.nd rfl .p (bQ gf rfl q12 rfl (af (cN (N' := ["word"]) (no := 1) (cap := []) rfl rfl .et rfl .er (cL (.a 1)) (.O (aG 0 uM rfl .p)) .d3 (.O (dN (.j (tP (cM (gM PySem.F.slot_str_startswith PySem.F.type_str_startswith OD Oj (.a 0) bg)) (Dk yA aj) aj) (gM zbB zbC GU Gw (.a 0) bg))))) ak)))
  (aw (aP (tP (cM (aL q76 hr rfl (af (aI bp (hW (.f 0)) (cN (N' := ["sign","source"]) (no := 2) (cap := []) rfl rfl .et rfl .er (cL (.a 2)) (.O (eA rfl (.l nc) .bP)) .d3 (.O (.a 1)))) (.ab (aI bp (.L (.f 2)) aj))) .dY)) (gn DI_Sum hr rfl (af (.a 0) (.f 2)) .dY) nV))))
theorem sP : (["word"] : List Str).Nodup := by decide +kernel
abbrev me : Stmt := top 53
def iU (q92 : List T->Option T): FS :=
  (bj (fy (ar eJ (.h cn 0) (ae 1)) (.m mP (.L .eQ (.h q92 0)))))
theorem yk : aK ["words","many"] ["words","many"] (ax me) := by walk_at "sc"
theorem xV (F : eK K "are_names" "are_names" me f fd)(hb : Binds K fd ["words","many"] [])(hm : mg "are_names" = some (.c f))(q93 : Def P w K mg base k "is_name" 1 q92)(q13 : mg "len" = none)(q26 : mg "all" = none):
  Def P w K mg base (k+1) "are_names" 2 (cg 2 2 (iU q92)) :=
 bP F yk hb hm fun cdv A outer s H E hr => (aw (aP (gj (eU .ah .bJ (.a 1) (aX _)) (jD (aY (wM rfl) rfl q26 rfl (.ab (cN (N' := ["word"]) (no := 1) (cap := []) rfl rfl .et rfl .er (cL (.a 0)) (.O (aG 0 sP rfl .p)) .d3 (.O (.p q93 0)))))))))
theorem xM : (["sign"] : List Str).Nodup := by decide +kernel
abbrev pQ : Stmt := top 54
def mC : FS :=
  (bj (fy (.ad 8) (.m mP (.L (so (ae 0)) (ar qw (ae 0) (fC .y))))))
theorem BS : aK ["word"] ["word"] (ax pQ) := by walk_at "sc"
theorem BL (F : eK K "is_name" "is_name" pQ f fd)(hb : Binds K fd ["word"] [])(hm : mg "is_name" = some (.c f))(q13 : mg "len" = none)(q26 : mg "all" = none)(q94 : mg "LONGEST_NAME" = some (.int 8 q95))(q96 : mg "LETTERS" = some (.str "abcdefghijklmnopqrstuvwxyz" q97)):
  Def P w K mg base (k+1) "is_name" 1 (cg 1 1 (mC)) :=
 bP F BS hb hm fun cdv A outer s H E hr => (aw (aP (gj (Ax qm qm aj .bJ (eV rfl q94)) (jD (aY (wM rfl) rfl q26 rfl (.ab (cN (N' := ["sign"]) (no := 1) (cap := []) rfl rfl .et rfl .er (HJ (.a 0)) (.O (aG 0 xM rfl .p)) .d3 (.O (eU G7 (.a 0) (HE rfl q96) rfl)))))))))
abbrev iM : Stmt := top 55
def lE (q50 q38 q39 q40 q41 q43 q51 : Addr)(dM_Part__wants dM_Cell__wants dM_Gain__wants dM_Sum__wants dM_Out__wants : List T->Option T): FS :=
  (qf 1 (mz (AN 1 .eQ (ai 2) (La 1 (iG (cq (fA [(q50, false), (q38, false), (q39, false), (q40, false), (q41, false), (q43, true), (q51, false)] (ae 2)))) (Ko (DI 1 (.M 2) B9 pj) (uk 1 (.M 2) (fC .bK))) pj))
  (zEnd 1 (fz .eQ (ai 2) (fz (aZ (dP [(q50, dM_Part__wants), (q38, dM_Part__wants), (q39, dM_Cell__wants), (q40, dM_Gain__wants), (q41, dM_Sum__wants), (q43, dM_Out__wants)] "wants" (ae 2) au)) (ai 3) (bZ (cw (ar (qu true) (ae 3) (ae 1))) gD bH))))))
theorem eG : aK ["parts","named","part","name"] ["parts"] (ax iM) := by walk_at "sc"
theorem qI (F : eK K "refuse_names" "refuse_names" iM f fd)(hb : Binds K fd ["parts"] [])(hm : mg "refuse_names" = some (.c f))(DM_wants : ∀a∈[(q50, dM_Part__wants), (q38, dM_Part__wants), (q39, dM_Cell__wants), (q40, dM_Gain__wants), (q41, dM_Sum__wants), (q43, dM_Out__wants)], cV P w K mg base k a.1 "wants" 1 a.2)(hi_Out : ∀a∈[(q50, false), (q38, false), (q39, false), (q40, false), (q41, false), (q43, true), (q51, false)], iA K q43 a.1 a.2)(q68 : mg "Out" = some (.c q43))(hf_name:∀C∈[q38,q39,q40,q41],eC K C/\bo K C "name")(q6:.cO):
  Def P w K mg base (k+1) "refuse_names" 1 (cg 4 1 (lE q50 q38 q39 q40 q41 q43 q51 dM_Part__wants dM_Cell__wants dM_Gain__wants dM_Sum__wants dM_Out__wants)):=
 bP F eG hb hm fun cdv A outer s H E hr=>(AH eG.nd rfl .p (tY (HU PassesOwn.never rfl (cL (.a 0)) (aG 2 eG.nd rfl .p) (rf (K8 (iO (cM (jf hi_Out rfl q6 rfl q68 (.a 2)))) (HV (Kj hr.units (pv 1) (.af 2) EL yt) (rf (B0 hr.units (pv 1) (.af 2) tN))) yt)))
  (DB (aw (fW PassesOwn.never rfl (cL (.a 0)) (aG 2 eG.nd rfl .p) (aw (fW PassesOwn.never rfl (cL (mm DM_wants hr (.a 2))) (aG 3 eG.nd rfl .p) (aw (cz (bq (EB hr.units) (.a 3) (.a 1) rfl) (aw gW) bE)))))))))
theorem nE:(["part"]:List Str).Nodup:=.c
theorem nG:(["part"]:List Str).Nodup:=.c
theorem nI:(["part"]:List Str).Nodup:=.c
abbrev hV:Stmt:=top 56
def fO (q50 q38 q39 q40 q41 q43 q51:Addr):FS:=
  (aF (bA 1 (.m cn (.x (ae 0) (fA [(q50,false),(q38,true),(q39,false),(q40,false),(q41,false),(q43,false),(q51,false)] (ae 0)))))
  (aF (bA 2 (.m cn (.x (ae 0) (.B (q39,true) (q43,false)))))
  (aF (bA 3 (.m cn (.x (ae 0) (.B (q39,false) (q43,true)))))
  (aF (bZ (uq (cw (ar Bm (.h cn 0) (az 24))) (uq (cw (.a Bm 2 4)) (uq (cw (.a Bm 1 2)) (cw (.a Bm 3 2))))) gD bH)
  (bZ (uq (cw (.a eJ 1 0)) (cw (.a eJ 3 0))) gD bH)))))
theorem fu:aK ["parts","ins","cells","outs"] ["parts"] (ax hV):=by walk_at "sc"
theorem pK (F:eK K "refuse_counts" "refuse_counts" hV f fd)(hb:Binds K fd ["parts"] [])(hm:mg "refuse_counts" = some (.c f))(hi_In:∀a∈[(q50,false),(q38,true),(q39,false),(q40,false),(q41,false),(q43,false),(q51,false)],iA K q38 a.1 a.2)(hi_Cell:∀a∈[(q50,false),(q38,false),(q39,true),(q40,false),(q41,false),(q43,false),(q51,false)],iA K q39 a.1 a.2)(hi_Out:∀a∈[(q50,false),(q38,false),(q39,false),(q40,false),(q41,false),(q43,true),(q51,false)],iA K q43 a.1 a.2)(q66:mg "Cell" = some (.c q39))(q67:mg "In" = some (.c q38))(q68:mg "Out" = some (.c q43))(q6:.cO)(q13:.dG)(q98:mg "MOST_ROWS" = some (.int 24 q99))(q100:mg "MOST_CELLS" = some (.int 4 q101))(q102:mg "MOST_LINES" = some (.int 2 q103)):
  Def P w K mg base (k+1) "refuse_counts" 1 (cg 4 1 (fO q50 q38 q39 q40 q41 q43 q51)):=
 bP F fu hb hm fun cdv A outer s H E hr=>(aq (bu 1 fu.nd rfl .p (aY dw rfl q13 zaw (.z (fun _ _ _ _ _ _=>(aG 0 nE rfl .p)) (.Z (.I hi_In q67)))))
  (aq (bu 2 fu.nd rfl .p (aY dw rfl q13 zaw (.z (fun _ _ _ _ _ _=>(aG 0 nG rfl .p)) (.Z (.I hi_Cell q66)))))
  (aq (bu 3 fu.nd rfl .p (aY dw rfl q13 zaw (.z (fun _ _ _ _ _ _=>(aG 0 nI rfl .p)) (.Z (.I hi_Out q68)))))
  (aq (.J (jS (.S .bJ q98) (jS (.S (.a 2) q100) (jS (.S (.a 1) q102) (kS (.S (.a 3) q102))))) (aw gW))
  (aw (.J (jS (.r (.a 1) aj) (kS (.r (.a 3) aj))) (aw gW)))))))
theorem uJ:(["part"]:List Str).Nodup:=.c
theorem m9:(["name","part","inner"]:List Str).Nodup:=.c
theorem uK:(["other","inner"]:List Str).Nodup:=.c
theorem uL:(["name","inner"]:List Str).Nodup:=.c
abbrev nQ:Stmt:=top 57
def jZ (n:Nat)(q50 q38 q39 q40 q41 q43 q51:Addr)(q104:List T->Option O)(dM_Part__wants dM_Cell__wants dM_Gain__wants dM_Sum__wants dM_Out__wants:.R):FS:=
  (aF (bA 1 (jq 1 [] .eQ (ai 0) (cq (ao (nz q40 q41 [(q50,false),(q38,false),(q39,false),(q40,true),(q41,true),(q43,false),(q51,false)]) (.c 0 (cZ (.e (fC (.ptr q40)) (fC (.ptr q41))))))) .bY (ae 0)))
  (aF (bA 2 (jq 2 [1] (iZ (ae 1)) .a1 aS (ae 0) (.ak (dP [(q50,dM_Part__wants),(q38,dM_Part__wants),(q39,dM_Cell__wants),(q40,dM_Gain__wants),(q41,dM_Sum__wants),(q43,dM_Out__wants)] "wants" (ae 1) au))))
  (aF (bX 3 au)
  (aF (bA 4 (pE 3 (lG q104 (.o 2 3))))
  (aF (cU (cq (ae 4)) (aF (fS 3 (.h rX 4))
  (bA 4 (pE 3 (lG q104 (.o 2 3))))) n)
  (aF (bZ (cw (ar Gm (sk 3 (.h cn 3)) (.h vB 1))) gD bH)
  (bj (bF 1 [1] (aZ (ae 3)) (ai 0) aS (.c fG 1 0)))))))))
theorem fY:aK ["parts","inner","wanted","order","free"] ["parts"] (ax nQ):=by walk_at "sc"
theorem zZ (n:Nat)(F:eK K "in_order" "in_order" nQ f fd)(hb:Binds K fd ["parts"] [])(hm:mg "in_order" = some (.c f))(q105:yM P w K mg base k "free_names" 2 q104)(DM_wants:∀a∈[(q50,dM_Part__wants),(q38,dM_Part__wants),(q39,dM_Cell__wants),(q40,dM_Gain__wants),(q41,dM_Sum__wants),(q43,dM_Out__wants)],cV P w K mg base k a.1 "wants" 1 a.2)(hi2_Gain_Sum:∀a∈[(q50,false),(q38,false),(q39,false),(q40,true),(q41,true),(q43,false),(q51,false)],AS K q40 q41 a.1 a.2)(q106:mg "Gain" = some (.c q40))(q107:mg "Sum" = some (.c q41))(hf_name:∀C∈[q38,q39,q40,q41],eC K C/\bo K C "name")(q6:.cO)(q108:mg "min" = none)(q13:.dG):
  Def P w K mg base (k+1) "in_order" 1 (cg 5 1 (jZ n q50 q38 q39 q40 q41 q43 q51 q104 dM_Part__wants dM_Cell__wants dM_Gain__wants dM_Sum__wants dM_Out__wants)):=
 bP F fY hb hm fun cdv A outer s H E hr=>(aq (bu 1 fY.nd rfl (Or.inr rfl) (HD hr.units (N':=["part"]) (no:=1) (cap:=[]) rfl rfl .et rfl .er (cL (.a 0)) (fun _ _ _ _ _ _=>(aG 0 uJ rfl .p)) (.Z (cM (aY (Fo hi2_Gain_Sum) rfl q6 rfl (.j (.a 0) (dN (af (HF rfl q106) (af (HF rfl q107) ak))))))) (fun _ _ _ _ _ _=>(bU hf_name (.a 0))) .aY))
  (aq (AG 2 fY.nd rfl rfl hr.units (N':=["name","part","inner"]) (no:=2) (cap:=[1]) rfl rfl .et rfl .er (AE (.a 1)) (.H (.l m9)) .bA .aY (fun _ _ _ _ _ _=>(cN (N':=["other","inner"]) (no:=1) (cap:=[2]) rfl rfl .et rfl .er (cL (mm DM_wants hr (.a 1))) (fun _ _ _ _ _ _=>(aG 0 uK rfl .p)) (.Z (bq (Mb hr.units) (.a 0) (.a 1) rfl)) .aY)))
  (aq (fZ 3 fY.nd rfl .p ak)
  (aq (bu 4 fY.nd rfl .p (AA 3 (AB q105 hr rfl (af (.a 2) (.f 3)) .dY)))
  (aq (mr n PassesOwn.never (cM (.a 4)) (aq (dZ 3 (pv 3) (aY (IF rfl) rfl q108 rfl (.f 4)))
  (aw (bu 4 fY.nd rfl .p (AA 3 (AB q105 hr rfl (af (.a 2) (.f 3)) .dY))))))
  (aq (cz (bq G9 (J7 3 (.L (.f 3))) (aY ID rfl q13 zaw (.f 1)) (aX _)) (aw gW) bE)
  (.D (cN (N':=["name","inner"]) (no:=1) (cap:=[1]) rfl rfl .et rfl .er (cL (.a 3)) (fun _ _ _ _ _ _=>(aG 0 uL rfl .p)) (fun _ _ _ _ _ _=>dJ) (fun _ _ _ _ _ _=>(gm hr.units (.a 1) (.a 0) .v))))))))))
theorem kY:(["name","others","order"]:List Str).Nodup:=.c
theorem qA:(["other","order"]:List Str).Nodup:=.c
abbrev kJ:Stmt:=top 58
def ip:Kr:=
  (CC (nA 2 [1] (iZ (ae 0)) .a1 (ki (cw (.c pG 0 2)) (cq .bx)) (uy (ae 0))))
theorem vd:aK ["wanted","order"] ["wanted","order"] (ax kJ):=by walk_at "sc"
theorem sW (F:eK K "free_names" "free_names" kJ f fd)(hb:Binds K fd ["wanted","order"] [])(hm:mg "free_names" = some (.c f))(q26:mg "all" = none):
  yM P w K mg base (k+1) "free_names" 2 (IK 2 2 (ip)):=
 IQ F vd hb hm fun cdv A outer s H E hr=>(Kf (AD (N':=["name","others","order"]) (no:=2) (cap:=[1]) rfl rfl .et rfl .er (AE (.a 0)) (.H (.l kY)) (fun _ _ _ _ _ _=>(iw (SW.st (mw (bq (Ha hr.units) (.a 0) (.a 2) rfl) (jg (cM (aY (wM rfl) rfl q26 rfl (.ab (cN (N':=["other","order"]) (no:=1) (cap:=[2]) rfl rfl .et rfl .er (cL (.a 1)) (fun _ _ _ _ _ _=>(aG 0 qA rfl .p)) .bA (fun _ _ _ _ _ _=>(eU (ON hr.units) (.a 0) (.a 1) rfl))))))))))) (fun _ _ _ _ _ _=>(SE.seo (.a 0)))))
abbrev lY:Stmt:=top 63
def iR:FS:=
  (aF (.D (cw (ar Gm (ae 1) (.h cn 0))) (.c bz 0 1))
  (bj (az 0)))
theorem yi:aK .eX .eX (ax lY):=by walk_at "sc"
theorem xR (F:eK K "_law_cell" "_law_cell" lY f fd)(hb:Binds K fd .eX [])(hm:mg "_law_cell" = some (.c f))(q13:.dG):
  Def P w K mg base (k+1) "_law_cell" 2 (cg 2 2 (iR)):=
 bP F yi hb hm fun cdv A outer s H E hr=>(aq (cz (bq G9 (.a 1) .bJ (aX _)) (aw (aP (.v 0 (.a 1)))) bE)
  (.D aj))
abbrev jx:Stmt:=top 64
def gO:FS:=
  (aF (bX 2 au)
  (aF (bA 3 (ae 0))
  (aF (fz (aZ (ae 1)) (ai 4) (aF (fS 2 (.c dM 3 4))
  (bA 3 (.c eO 3 4))))
  (bj (ae 2)))))
theorem eT:aK ["_law_cell_here","_law_bases","_law_found","_law_left","_law_base"] .bT (ax jx):=by walk_at "sc"
theorem sX (F:eK K "_law_digits" "_law_digits" jx f fd)(hb:Binds K fd .bT [])(hm:mg "_law_digits" = some (.c f)):
  Def P w K mg base (k+1) "_law_digits" 2 (cg 5 2 (gO)):=
 bP F eT hb hm fun cdv A outer s H E hr=>(aq (fZ 2 eT.nd rfl .p ak)
  (aq (bu 3 eT.nd rfl .p (.a 0))
  (aq (fW PassesOwn.never rfl (cL (.a 1)) (aG 4 eT.nd rfl .p) (aq (dZ 2 (pv 2) (aI fw (.a 3) (.a 4)))
  (aw (bu 3 eT.nd rfl .p (aI dY (.a 3) (.a 4))))))
  (.D (.a 2)))))
abbrev kF:Stmt:=top 65
def ig:FS:=
  (aF (bX 2 au)
  (aF (bA 3 (ar aR (.a dM 0 2147483629) (az 17)))
  (aF (fz (dy (bM 1)) (ai 4) (aF (bA 3 (ar dM .c4 (az 2147483647)))
  (fS 2 (ar eO (ar dM (ar cG (ae 3) (ae 3)) (az 2147483587)) (az 3)))))
  (bj (ae 2)))))
theorem fJ:aK ["_law_cell_here","_law_many","_law_found","_law_number","_law_k"] .cI (ax kF):=by walk_at "sc"
theorem uT (F:eK K "_law_mixed" "_law_mixed" kF f fd)(hb:Binds K fd .cI [])(hm:mg "_law_mixed" = some (.c f))(q109:mg "range" = none):
  Def P w K mg base (k+1) "_law_mixed" 2 (cg 5 2 (ig)):=
 bP F fJ hb hm fun cdv A outer s H E hr=>(aq (fZ 2 fJ.nd rfl .p ak)
  (aq (bu 3 fJ.nd rfl .p (aI bp (.H fw 0) aj))
  (aq (fW PassesOwn.never rfl (kQ rfl q109 (.f 1)) (aG 4 fJ.nd rfl .p) (aq (bu 3 fJ.nd rfl .p (aI fw (aI bp (aI bp (.H dr 3) (aI dr aj (.a 4))) aj) aj))
  (aw (dZ 2 (pv 2) (aI dY (aI fw (aI dr (.a 3) (.a 3)) aj) aj)))))
  (.D (.a 2)))))
theorem kX:(["_law_number","_law_base"]:List Str).Nodup:=.c
abbrev kC:Stmt:=top 66
def ie (q110 q111:.R):FS:=
  (aF (.D (.u (.a dM 0 2) (az 1)) (ao q110 (ag (.a eO 0 2) (bM 1))))
  (bj (bF 2 [] (lH (ag (ao q111 (.e (.a eO 0 2) (ao cn (bM 1)))) (bM 1))) .a1 aS (.c dM 0 1))))
theorem vc:aK .bT .bT (ax kC):=by walk_at "sc"
theorem uR (F:eK K "_law_drawn" "_law_drawn" kC f fd)(hb:Binds K fd .bT [])(hm:mg "_law_drawn" = some (.c f))(q112:Def P w K mg base k "_law_digits" 2 q110)(q113:Def P w K mg base k "_law_mixed" 2 q111)(q114:mg "zip" = none)(q13:.dG):
  Def P w K mg base (k+1) "_law_drawn" 2 (cg 2 2 (ie q110 q111)):=
 bP F vc hb hm fun cdv A outer s H E hr=>(aq (cz (bq .ah (.H fw 0) aj (aX _)) (.D (.f q112 (.j (.H dY 0) (.a 1)))) bE)
  (aw (aP (cN (N':=["_law_number","_law_base"]) (no:=2) (cap:=[]) rfl rfl .et rfl .er (BV rfl q114 (af (.f q113 (.j (.H dY 0) (.L (.ab (.a 1))))) (.f 1))) (.H (.l kX)) .bA (fun _ _ _ _ _ _=>(aI fw (.a 0) (.a 1)))))))
theorem qy:(["_law_j","_law_letters","_law_tail","_law_k","_law_at"]:List Str).Nodup:=.c
abbrev kG:Stmt:=top 67
def ij (q115:.R):FS:=
  (aF (bA 2 (fC .y))
  (aF (bA 3 (ar aR (az 1) (.a dM 0 8)))
  (aF (bA 4 (ar dM (.a eO 0 8) (ae 3)))
  (aF (bA 5 (ao q115 .dZ))
  (aF (bX 6 au)
  (aF (fz (dy (bM 1)) (ai 7) (aF (fB 8 1 [2,5,7,4] (dy (bM 3)) (ai 0) aS .bv)
  (fS 6 (ar cX (fC .dW) (ae 8)))))
  (bj (ae 6))))))))
theorem cY:aK ["_law_cell_here","_law_many","_law_letters","_law_size","_law_at","_law_tail","_law_names_here","_law_k","_law_signs"] .cI (ax kG):=by walk_at "sc"
theorem uU (F:eK K "_law_names" "_law_names" kG f fd)(hb:Binds K fd .cI [])(hm:mg "_law_names" = some (.c f))(q116:Def P w K mg base k "_law_drawn" 2 q115)(q109:mg "range" = none)(q5:mg "int" = none):
  Def P w K mg base (k+1) "_law_names" 2 (cg 9 2 (ij q115)):=
 bP F cY hb hm fun cdv A outer s H E hr=>(aq (bu 2 cY.nd rfl (Or.inr rfl) bg)
  (aq (bu 3 cY.nd rfl .p (aI bp aj (.H fw 0)))
  (aq (bu 4 cY.nd rfl (Or.inr rfl) (aI fw (.H dY 0) (.a 3)))
  (aq (bu 5 cY.nd rfl (Or.inr rfl) (.f q116 (.j (.H dY 0) (aI Hb (hW (.ab aj)) (.a 3)))))
  (aq (fZ 6 cY.nd rfl .p ak)
  (aq (fW PassesOwn.never rfl (kQ rfl q109 (.f 1)) (aG 7 cY.nd rfl (Or.inr rfl)) (aq (tW cY.nd rfl rfl (N':=["_law_j","_law_letters","_law_tail","_law_k","_law_at"]) (no:=1) (cap:=[2,5,7,4]) rfl rfl .et rfl .er (kQ rfl q109 (.f 3)) (fun _ _ _ _ _ _=>(aG 0 qy rfl .p)) .bA (fun _ _ _ _ _ _=>(aM aN (.a 1) (aI fw (aI bp (.v 2 (.a 0)) (aI dr (.a 3) (bQ qO rfl q5 rfl (.ab (eU .ah (.a 0) (.a 4) (aX _)))))) aj) .v)))
  (aw (dZ 6 (pv 6) (.az (.a 8))))))
  (.D (.a 6))))))))
abbrev lZ:Stmt:=top 68
def lD (n:Nat):FS:=
  (aF (uw 2 3 (ag (.h rT 0) (bM 1)))
  (aF (cU (cw (.a qg 3 0)) (uw 2 3 (.e (ae 3) (ar dM (ae 2) (ae 3)))) n)
  (bj (cZ (.e (.q eO (ae 2)) (ar eO (ae 1) (ae 2)))))))
theorem kM:aK ["_law_top","_law_bottom","_law_one","_law_other"] ["_law_top","_law_bottom"] (ax lZ):=by walk_at "sc"
theorem xS (n:Nat)(F:eK K "_law_frac" "_law_frac" lZ f fd)(hb:Binds K fd ["_law_top","_law_bottom"] [])(hm:mg "_law_frac" = some (.c f))(q2:mg "abs" = none):
  Def P w K mg base (k+1) "_law_frac" 2 (cg 4 2 (lD n)):=
 bP F kM hb hm fun cdv A outer s H E hr=>(aq (tV rfl kM.nd rfl rfl .f rfl rfl (af (aY rO rfl q2 rfl (.f 0)) (.f 1)) rfl)
  (aq (mr n PassesOwn.never (.t (.a 3) aj) (aw (tV rfl kM.nd rfl rfl .f rfl rfl (.j (.a 3) (aI fw (.a 2) (.a 3))) rfl)))
  (.D (dN (.j (aI dY (.a 0) (.a 2)) (aI dY (.a 1) (.a 2)))))))
abbrev kE:Stmt:=top 69
def eY (q117:.R):FS:=
  (aF (.D (.u .b8 (az 0)) (cZ (ag .fE (ag (ae 0) (.e (ao q117 (ag (ar lJ .b2 (az 99)) (.ay (ar aR (az 1) (.a bz 1 2))))) (ar bz (ae 2) (ar dM (.a bz 1 3) (ao cn (bM 2)))))))))
  (aF (bX 3 au)
  (aF (fz (aZ .eO) (ai 4) (fS 3 (cZ (.e (ar bz (eR (ag (az 1) (ag  .d1  au))) (.a dM 4 2)) (ar bz (ae 2) (ar dM (.a eO 4 2)  (ao cn (bM 2)) ))))))
  (bj (cZ (ag .cV (.c 0 (.h gh 3))))))))
theorem jA:aK ["_law_name","_law_digits_here","_law_some","_law_terms","_law_digit"] .fb (ax kE):=by walk_at "sc"
theorem uS (F:eK K "_law_inner" "_law_inner" kE f fd)(hb:Binds K fd .fb [])(hm:mg "_law_inner" = some (.c f))(q118:Def P w K mg base k "_law_frac" 2 q117)(q13:.dG)(q12:mg "tuple" = none):
  Def P w K mg base (k+1) "_law_inner" 3 (cg 5 3 (eY q117)):=
 bP F jA hb hm fun cdv A outer s H E hr=>(aq (cz (bq .ah .e0 aj (aX _)) (aw (aP (dN (af bg (af (.a 0) (.j (.f q118 (af (aI lT .e0 aj) (.ab (aI bp aj .e0)))) (aM aN (.a 2) (aI fw .e0 (.L (.f 2))) .v))))))) bE)
  (aq (fZ 3 jA.nd rfl .p ak)
  (aq (fW PassesOwn.never rfl (cL (oV (.a 1) (mJ aj) (mJ (aI bp aj .e0)))) (aG 4 jA.nd rfl .p) (aw (dZ 3 (pv 3) (dN (.j (aM aN (hW (af aj (.ab (Dk yA aj)))) (.H fw 4) .v) (aM aN (.a 2) (aI fw (.H dY 4) (.L (.f 2))) .v))))))
  (.D (dN (af bg (.j (.a 0) (.ap (.f 3)))))))))
theorem qz:(["_law_name"]:List Str).Nodup:=.c
abbrev kH:Stmt:=top 70
def ik (q119 q115 q120 q121:.R):FS:=
  (aF (bA 1 (ao q119 (.e (ae 0) (az 0))))
  (aF (kj (ao q115 .ch) (vM (ay (ai 2) (ay (ai 3) (.a 4 5)))))
  (aF (bA 6 (ao q120 (.aA q119)))
  (aF (bA 7 (yJ (ae 6) fj (dU (.r 3))))
  (aF (fB 8 1 [] (aZ .eY) (ai 0) aS (cZ (ag .dQ (bM 0))))
  (aF (fz (dy (bM 5)) (ai 9) (aF (bA 10 (ao q115 (.m q119)))
  (aF (fS 8 (ao q121 (.ag (.o 10 7))))
  (bA 7 (ar aR (ae 7) (eR (.ag au)))))))
  (aF (bA 11 (ao q115 (.G q119)))
  (aF (fz (dy (bM 3)) (ai 9) .bz)
  (aF (fz (dy (.ay (.a aR 4 1))) (ai 9) .bV)
  (bj (ae 8)))))))))))
theorem bI:aK ["_law_script","_law_cell_here","_law_ins","_law_cells","_law_outs","_law_inner_here","_law_names_here","_law_some","_law_parts_here","_law_k","_law_digits_here","_law_ends"] ["_law_script"] (ax kH):=by walk_at "sc"
theorem uV (F:eK K "_law_parts" "_law_parts" kH f fd)(hb:Binds K fd ["_law_script"] [])(hm:mg "_law_parts" = some (.c f))(q122:Def P w K mg base k "_law_cell" 2 q119)(q116:Def P w K mg base k "_law_drawn" 2 q115)(q123:Def P w K mg base k "_law_names" 2 q120)(q124:Def P w K mg base k "_law_inner" 3 q121)(q109:mg "range" = none)(q13:.dG):
  Def P w K mg base (k+1) "_law_parts" 1 (cg 12 1 (ik q119 q115 q120 q121)):=
 bP F bI hb hm fun cdv A outer s H E hr=>(aq (bu 1 bI.nd rfl .p (.f q122 (.j (.a 0) aj)))
  (aq (nW (.f q116 (.j (.a 1) (hW (af aj (af aj (af aj (.ab aj))))))) (HG rfl (aU (aG 2 bI.nd rfl .p) (aU (aG 3 bI.nd rfl .p) (aU (aG 4 bI.nd rfl .p) (aU (aG 5 bI.nd rfl .p) cO)))) (bh (bh .bP))))
  (aq (bu 6 bI.nd rfl .p (.f q123 (.j (.aj (.ab aj)) (.O (aI bp (.H bp 2) (.a 3)) 5))))
  (aq (bu 7 bI.nd rfl .p (oV (.a 6) yr (mJ (.O (.H bp 2) 3))))
  (aq (tW bI.nd rfl rfl (N':=["_law_name"]) (no:=1) (cap:=[]) rfl rfl .et rfl .er (cL (oV (.a 6) yr (mJ (.H bp 2)))) (fun _ _ _ _ _ _=>(aG 0 qz rfl .p)) .bA (fun _ _ _ _ _ _=>(dN (af bg (.f 0)))))
  (aq (fW PassesOwn.never rfl (kQ rfl q109 (.f 5)) (aG 9 bI.nd rfl .p) (aq (bu 10 bI.nd rfl .p (.f q116 (.j (aI bp (.aj (.ab (aI bp aj (.a 9)))) (aI dr aj (.a 9))) (hW (af aj (af aj (af aj (af aj (af aj (af aj (.ab aj)))))))))))
  (aq (dZ 8 (pv 8) (aL q124 hr rfl (af (.v 6 (.O (aI bp (.H bp 2) (.a 3)) 9)) (af (.a 10) (.f 7))) (ah .dY)))
  (aw (bu 7 bI.nd rfl .p (aI bp (.a 7) (hW (.ab (.v 6 (.O (aI bp (.H bp 2) (.a 3)) 9))))))))))
  (aq (bu 11 bI.nd rfl .p (.f q116 (.j (.aj (.ab aj)) (aI Hb (hW (.ab (.L (af (.a 7) ak)))) (aI bp (.O (.a 3) 4) aj)))))
  (aq (fW PassesOwn.never rfl (kQ rfl q109 (.f 3)) (aG 9 bI.nd rfl .p) (aw (dZ 8 (pv 8) (dN (af bg (.j (.v 6 (.O (.H bp 2) 9)) (.v 7 (aM aN (.a 11) (.a 9) .v))))))))
  (aq (fW PassesOwn.never rfl (kQ rfl q109 (.ab (.H bp 4))) (aG 9 bI.nd rfl .p) (aw (dZ 8 (pv 8) (dN (.j bg (.v 7 (aM aN (.a 11) (.O (.a 3) 9) .v)))))))
  (.D (.a 8)))))))))))
theorem sN:(["_law_k"]:List Str).Nodup:=.c
abbrev ma:Stmt:=top 71
def iS (q115:.R):FS:=
  (aF (bX 2 au)
  (aF (fz (lH (.e (ae 0) (ao q115 (ag (ae 1) (.ay (.L (dy (ag (ao cn (bM 0)) au)) (.a aR 0 1))))))) .fm (D9 2 (ae 4) (ae 3)))
  (bj (ae 2))))
theorem iu:aK ["_law_parts_here","_law_cell_here","_law_laid_here","_law_part","_law_place"] ["_law_parts_here","_law_cell_here"] (ax ma):=by walk_at "sc"
theorem xT (F:eK K "_law_laid" "_law_laid" ma f fd)(hb:Binds K fd ["_law_parts_here","_law_cell_here"] [])(hm:mg "_law_laid" = some (.c f))(q116:Def P w K mg base k "_law_drawn" 2 q115)(q114:mg "zip" = none)(q109:mg "range" = none)(q13:.dG):
  Def P w K mg base (k+1) "_law_laid" 2 (cg 5 2 (iS q115)):=
 bP F iu hb hm fun cdv A outer s H E hr=>(aq (fZ 2 iu.nd rfl .p ak)
  (aq (fW PassesOwn.never rfl (BV rfl q114 (af (.a 0) (.ab (aL q116 hr rfl (.j (.a 1) (cN (N':=["_law_k"]) (no:=1) (cap:=[]) rfl rfl .et rfl .er (kQ rfl q109 (af .bJ ak)) (fun _ _ _ _ _ _=>(aG 0 sN rfl .p)) .bA (fun _ _ _ _ _ _=>(aI bp (.a 0) aj)))) (ah .aq))))) (.X (aG 3 iu.nd rfl .p) (aU (aG 4 iu.nd rfl .p) cO)) (aw (EK 2 (pv 2) (.a 4) (.a 3))))
  (.D (.a 2))))
abbrev gJ:Stmt:=top 72
def jJ:FS:=
  (aF (.D (cw (.Q eJ .bh)) (.m lb (.h 0)))
  (bj (ar aR (ar aR (.m lb (.h 0)) (fC (.str "/"))) (.m lb (.a bz 0 1)))))
theorem oS:aK ["_law_one"] ["_law_one"] (ax gJ):=by walk_at "sc"
theorem oM (F:eK K "_law_frac_text" "_law_frac_text" gJ f fd)(hb:Binds K fd ["_law_one"] [])(hm:mg "_law_frac_text" = some (.c f))(q19:mg "str" = none):
  Def P w K mg base (k+1) "_law_frac_text" 1 (cg 1 1 (jJ)):=
 bP F oS hb hm fun cdv A outer s H E hr=>(aq (cz (.r .O aj) (.D (bQ rP rfl q19 rfl (.ab .O))) bE)
  (.D (aI bp (aI bp (bQ rP rfl q19 rfl (.ab .O)) bg) (bQ rP rfl q19 rfl (.ab .O)))))
theorem m8:(["_law_sign","_law_name"]:List Str).Nodup:=.c
abbrev nP:Stmt:=top 73
def jY (q125:.R):FS:=
  (aF (.D (.u (.h 0) .fE) (ar aR (ar aR (ar aR (ar aR (ar aR (fC (.str "gain ")) .bh) .dE) (.m q125 .ds)) .dE) (.a bz 0 3)))
  (aF (.D (.u (.h 0) (fC (.str "sum"))) (ar aR (ar aR (fC (.str "sum ")) .bh) (ar cX (fC .dW) (bF 2 [] (aZ .ds) .a1 aS .bw))))
  (bj (ar cX .dE (ae 0)))))
theorem Av:aK ["_law_part"] ["_law_part"] (ax nP):=by walk_at "sc"
theorem zY (F:eK K "_law_row" "_law_row" nP f fd)(hb:Binds K fd ["_law_part"] [])(hm:mg "_law_row" = some (.c f))(q126:Def P w K mg base k "_law_frac_text" 1 q125)(q5:mg "int" = none):
  Def P w K mg base (k+1) "_law_row" 1 (cg 1 1 (jY q125)):=
 bP F Av hb hm fun cdv A outer s H E hr=>(aq (cz (.r .O bg) (.D (aI bp (aI bp (aI bp (aI bp (aI bp bg .O) bg) (aL q126 hr rfl (.ab .O) .aq)) bg) .O)) bE)
  (aq (cz (.r .O bg) (aw (aP (aI bp (aI bp bg .O) (.az (cN (N':=["_law_sign","_law_name"]) (no:=2) (cap:=[]) rfl rfl .et rfl .er (cL .O) (.H (.l m8)) .bA (fun _ _ _ _ _ _=>(aI bp (aM aN (hW (af bg (.ab bg))) (bQ qO rfl q5 rfl (.ab (eU tf (.a 0) aj (aX _)))) .v) (.a 1)))))))) bE)
  (.D (.az (.a 0)))))
theorem sO:(["_law_part"]:List Str).Nodup:=.c
abbrev md:Stmt:=top 74
def iT (q127:.R):FS:=
  (bj (ar cX (fC (.str "\n")) (.L .eQ (.h q127 0))))
theorem yj : aK ["_law_laid_here"] ["_law_laid_here"] (ax md) := by walk_at "sc"
theorem xU (F : eK K "_law_text" "_law_text" md f fd)(hb : Binds K fd ["_law_laid_here"] [])(hm : mg "_law_text" = some (.c f))(q128 : Def P w K mg base k "_law_row" 1 q127):
  Def P w K mg base (k+1) "_law_text" 1 (cg 1 1 (iT q127)) :=
 bP F yj hb hm fun cdv A outer s H E hr => (.D (.az (cN (N' := ["_law_part"]) (no := 1) (cap := []) rfl rfl .et rfl .er (cL (.a 0)) (.O (aG 0 sO rfl .p)) .d3 (.O (.p q128 0)))))
abbrev kI : Stmt := top 75
def il (q115 q117 : List T->Option T): FS :=
  (aF (bZ (.u (.a dM 0 3) (az 0)) (aF (bA 1 (ao q115 (.e (.a eO 0 3) (eR (ag (.Q lJ (ar cG (az 2) (.aa 30))) (.ay (.Q lJ (.aa 30))))))))
  (bj (ao q117 (.e (ar lJ .b8 (.Q lJ (.aa 30))) (ar aR (az 1) .b2))))) bH)
  (aF (bA 1 (ao q115 (.e (.a eO 0 3) (eR (ag (az 19999) (.ay (az 9999)))))))
  (bj (ao q117 (.e (ar lJ .b8 (az 9999)) (ar aR (az 1) .b2))))))
theorem jB : aK ["_law_cell_here","_law_digits_here"] ["_law_cell_here"] (ax kI) := by walk_at "sc"
theorem uW (F : eK K "_law_value" "_law_value" kI f fd)(hb : Binds K fd ["_law_cell_here"] [])(hm : mg "_law_value" = some (.c f))(q116 : Def P w K mg base k "_law_drawn" 2 q115)(q118 : Def P w K mg base k "_law_frac" 2 q117):
  Def P w K mg base (k+1) "_law_value" 1 (cg 2 1 (il q115 q117)) :=
 bP F jB hb hm fun cdv A outer s H E hr => (aq (cz (bq .ah (.H fw 0) aj (aX _)) (aq (bu 1 jB.nd rfl .p (.f q116 (.j (.H dY 0) (hW (af (aI lT (aI dr aj (aI ti aj aj)) aj) (.ab (aI lT (aI ti aj aj) aj)))))))
  (.D (aL q118 hr rfl (.j (aI lT (.ai 1) (aI lT (aI ti aj aj) aj)) (aI bp aj (.ai 1))) .dY))) bE)
  (aq (bu 1 jB.nd rfl .p (.f q116 (.j (.H dY 0) (hW (af aj (.ab aj))))))
  (.D (aL q118 hr rfl (.j (aI lT (.ai 1) aj) (aI bp aj (.ai 1))) .dY))))
abbrev nO : Stmt := top 76
def jX (q117 : List T->Option T): FS :=
  (aF (.D (.u (.h 0) .dQ) (ar fG (ae 1) .bh))
  (aF (bZ (.u (.h 0) .fE) (aF (bA 2 (ar fG (ae 1) (.a bz 0 3)))
  (bj (ao q117 (.e (ar cG (ar bz .ds (az 0)) (.a bz 2 0)) (ar cG (.Q bz .ds) (.a bz 2 1)))))) bH)
  (aF (bZ (.u (.h 0) .cV) (aF (kj (cZ (.e (az 0) (az 1))) (vM (.a 3 4)))
  (aF (fz (aZ .ds) (bK (.a 5 6)) (aF (bA 2 (.c fG 1 6))
  (aF (bA 3 (ar aR (.V 3 1) (ar cG (.V 5 0) (ae 4))))
  (bA 4 (.V 4 1)))))
  (bj (ao q117 (.o 3 4))))) bH)
  (bj (ar fG (ae 1) (.q bz (.Q lJ (.h cn 0))))))))
theorem dH : aK ["_law_part","_law_values","_law_one","_law_top","_law_bottom","_law_sign","_law_name"] ["_law_part","_law_values"] (ax nO) := by walk_at "sc"
theorem zX (F : eK K "_law_due" "_law_due" nO f fd)(hb : Binds K fd ["_law_part","_law_values"] [])(hm : mg "_law_due" = some (.c f))(q118 : Def P w K mg base k "_law_frac" 2 q117)(q13 : mg "len" = none):
  Def P w K mg base (k+1) "_law_due" 2 (cg 7 2 (jX q117)) :=
 bP F dH hb hm fun cdv A outer s H E hr => (aq (cz (.r (.ai 0) bg) (.D (.G (.ai 0) .eE)) bE)
  (aq (cz (.r (.ai 0) bg) (aq (bu 2 dH.nd rfl .p (.G (.ai 0) .eE))
  (.D (aL q118 hr rfl (.j (aI dr (.e (aM aN (.a 0) aj .eE)) (.ai 2)) (aI dr (.e (aM aN (.a 0) aj .eE)) (.ai 2))) .dY))) bE)
  (aq (cz (.r (.ai 0) bg) (aq (nW (dN (af aj (.ab aj))) (HG rfl (aU (aG 3 dH.nd rfl .p) (aU (aG 4 dH.nd rfl .p) cO)) .bP))
  (aq (fW PassesOwn.never rfl (cL (.ai 0)) (.X (aG 5 dH.nd rfl .p) (aU (aG 6 dH.nd rfl .p) cO)) (aq (bu 2 dH.nd rfl .p (.G (.a 6) .eE))
  (aq (bu 3 dH.nd rfl .p (aI bp (aI dr (.a 3) (.ai 2)) (aI dr (aI dr (.a 5) (.ai 2)) (.a 4))))
  (aw (bu 4 dH.nd rfl .p (aI dr (.a 4) (.ai 2)))))))
  (.D (.f q118 (.j (.a 3) (.a 4)))))) bE)
  (.D (.G (aM aN (.a 0) (aI lT (aY dw rfl q13 zaw  (.f 0) ) aj) .eE) .eE)))))
theorem h9 : (["_law_sign","_law_name"] : List Str).Nodup := by decide +kernel
abbrev gK : Stmt := top 77
def eZ (q50 q38 q39 q40 q41 q43 q51 : Addr)(q127 : List T->Option T)(dM_Part__row dM_In__row dM_Cell__row dM_Gain__row dM_Sum__row dM_Out__row dM_Part__wants dM_Cell__wants dM_Gain__wants dM_Sum__wants dM_Out__wants dM_Part__tells dM_In__tells dM_Cell__tells dM_Gain__tells dM_Sum__tells dM_Out__tells : List T->Option T): FS :=
  (aF (bA 4 (cZ (.ay (ar bz (ae 1) (.Q lJ (.h cn 1))))))
  (aF (bZ (.u .b8 .dQ) (bA 4 (cZ au)) bH)
  (aF (bZ (.u .b8 .cV) (bA 4 (.m gh (bF 2 [] (aZ (.a bz 1 2)) (bK  (.a 0 1) ) aS (ae 1)))) bH)
  (aF (bZ (uq (iG (cq (fA [(q50, true), (q38, true), (q39, true), (q40, true), (q41, true), (q43, true), (q51, false)] (ae 0)))) (cw (ar qg (dP [(q50, dM_Part__row), (q38, dM_In__row), (q39, dM_Cell__row), (q40, dM_Gain__row), (q41, dM_Sum__row), (q43, dM_Out__row)] "row" (ae 0) au) (.h q127 1)))) (bj (fC .Q)) bH)
  (bj (fy (ar eJ (dP [(q50, dM_Part__wants), (q38, dM_Part__wants), (q39, dM_Cell__wants), (q40, dM_Gain__wants), (q41, dM_Sum__wants), (q43, dM_Out__wants)] "wants" (ae 0) au) (ae 4)) (ar eJ (dP [(q50, dM_Part__tells), (q38, dM_In__tells), (q39, dM_Cell__tells), (q40, dM_Gain__tells), (q41, dM_Sum__tells), (q43, dM_Out__tells)] "tells" (ae 0) (bM 2)) (ae 3))))))))
theorem eL : aK ["_law_made","_law_part","_law_values","_law_due_here","_law_wants"] .dO (ax gK) := by walk_at "sc"
theorem oN (F : eK K "_law_made_good" "_law_made_good" gK f fd)(hb : Binds K fd .dO [])(hm : mg "_law_made_good" = some (.c f))(q128 : Def P w K mg base k "_law_row" 1 q127)(DM_row : ∀a∈[(q50, dM_Part__row), (q38, dM_In__row), (q39, dM_Cell__row), (q40, dM_Gain__row), (q41, dM_Sum__row), (q43, dM_Out__row)], cV P w K mg base k a.1 "row" 1 a.2)(DM_wants : ∀a∈[(q50, dM_Part__wants), (q38, dM_Part__wants), (q39, dM_Cell__wants), (q40, dM_Gain__wants), (q41, dM_Sum__wants), (q43, dM_Out__wants)], cV P w K mg base k a.1 "wants" 1 a.2)(DM_tells : ∀a∈[(q50, dM_Part__tells), (q38, dM_In__tells), (q39, dM_Cell__tells), (q40, dM_Gain__tells), (q41, dM_Sum__tells), (q43, dM_Out__tells)], cV P w K mg base k a.1 "tells" 2 a.2)(hi_Part : ∀a∈[(q50, true), (q38, true), (q39, true), (q40, true), (q41, true), (q43, true), (q51, false)], iA K q50 a.1 a.2)(q129 : mg "Part" = some (.c q50))(q13 : mg "len" = none)(q12 : mg "tuple" = none)(q6 : mg "isinstance" = none):
  Def P w K mg base (k+1) "_law_made_good" 4 (cg 5 4 (eZ q50 q38 q39 q40 q41 q43 q51 q127 dM_Part__row dM_In__row dM_Cell__row dM_Gain__row dM_Sum__row dM_Out__row dM_Part__wants dM_Cell__wants dM_Gain__wants dM_Sum__wants dM_Out__wants dM_Part__tells dM_In__tells dM_Cell__tells dM_Gain__tells dM_Sum__tells dM_Out__tells)) :=
 bP F eL hb hm fun cdv A outer s H E hr => (aq (bu 4 eL.nd rfl .p (dN (.ab (aM aN (.a 1) (aI lT (.L (.f 1)) aj) .eE))))
  (aq (cz (.r (.ai 1) bg) (aw (bu 4 eL.nd rfl .p (dN ak))) bE)
  (aq (cz (.r (.ai 1) bg) (aw (bu 4 eL.nd rfl .p (bQ gf rfl q12 rfl (.ab (cN (N' := ["_law_sign","_law_name"]) (no := 2) (cap := []) rfl rfl .et rfl .er (cL (.e (.a 1))) (.O (eA rfl (.l h9) .bP)) .d3 (.O (.a 1))))))) bE)
  (aq (cz (SW.st (jS (iO (.I hi_Part q129)) (kS (bq (lS hr.units) (mm DM_row hr (.a 0)) (.p q128 1) (aX _))))) (.D tN) bE)
  (aw (aP (gj (eU .ah (mm DM_wants hr (.a 0)) (.a 4) (aX _)) (jD (eU .ah (Dj DM_tells hr (.a 0) (.f 2) (fun τ ts τ' e => congrArg (· + 1) ((.aq) τ ts τ' e))) (.a 3) (aX _))))))))))
abbrev iL : Stmt := top 78
def gd (q38 q39 q40 q41 q43 : Addr)(q130 : List T->Option T)(dI_In dI_Cell dI_Gain dI_Sum dI_Out : List T->Option rh): FS :=
  (aF (bZ (.u (.h 0) .dQ) (aF (bA 3 (hX q38 dI_In (.ay .bh)))
  (bj (fy (ar eJ (.M 3) .bh) (.R 3)))) bH)
  (aF (bZ (.u (.h 0) (fC (.str "cell"))) (aF (bA 4 (hX q39 dI_Cell (.e .bh .ds)))
  (bj (fy (ar eJ (.M 4) .bh) (fy (ar eJ (cS [q39, q40, q43] "source" (ae 4)) .ds) (.R 4))))) bH)
  (aF (bZ (.u (.h 0) .fE) (aF (bA 5 (hX q40 dI_Gain (ag .bh (.e .ds (.a bz 0 3)))))
  (aF (.D (uq (cw (ar qg (.M 5) .bh)) (uq (cw (ar qg (cS [q40] "by" (ae 5)) .ds)) (cw (ar qg (cS [q39, q40, q43] "source" (ae 5)) (.a bz 0 3))))) (fC .Q))
  (bj (.R 5)))) bH)
  (aF (bZ (.u (.h 0) .cV) (aF (bA 6 (hX q41 dI_Sum (.e .bh .ds)))
  (bj (fy (ar eJ (.M 6) .bh) (fy (ar eJ (cS [q41] "terms" (ae 6)) .ds) (.R 6))))) bH)
  (aF (bA 7 (hX q43 dI_Out (.ay .bh)))
  (bj (fy (ar eJ (cS [q39, q40, q43] "source" (ae 7)) .bh) (.R 7))))))))
theorem dA : aK ["_law_part","_law_values","_law_due_here","_law_line","_law_cell_here","_law_gain","_law_total","_law_end"] .ff (ax iL) := by walk_at "sc"
theorem qH (F : eK K "_law_by_hand" "_law_by_hand" iL f fd)(hb : Binds K fd .ff [])(hm : mg "_law_by_hand" = some (.c f))(q131 : Def P w K mg base k "_law_made_good" 4 q130)(DI_In : gx P w K mg base k "In" q38 1 dI_In)(DI_Cell : gx P w K mg base k "Cell" q39 2 dI_Cell)(DI_Gain : gx P w K mg base k "Gain" q40 3 dI_Gain)(DI_Sum : gx P w K mg base k "Sum" q41 2 dI_Sum)(DI_Out : gx P w K mg base k "Out" q43 1 dI_Out)(hf_name:∀C∈[q38,q39,q40,q41],eC K C/\bo K C "name")(hf_source:∀C∈[q39,q40,q43],eC K C/\bo K C "source")(hf_by:∀C∈[q40],eC K C/\bo K C "by")(hf_terms:∀C∈[q41],eC K C/\bo K C "terms"):
  Def P w K mg base (k+1) "_law_by_hand" 3 (cg 8 3 (gd q38 q39 q40 q41 q43 q130 dI_In dI_Cell dI_Gain dI_Sum dI_Out)):=
 bP F dA hb hm fun cdv A outer s H E hr=>(aq (cz (.r .O bg) (aq (bu 3 dA.nd rfl .p (gn DI_In hr rfl (.ab .O) .aq))
  (.D (.l hf_name 3))) bE)
  (aq (cz (.r .O bg) (aq (bu 4 dA.nd rfl .p (gn DI_Cell hr rfl (af .O (.ab .O)) .dY))
  (.D (gj (eU .ah (.af 4) .O (aX _)) (.l hf_source 4)))) bE)
  (aq (cz (.r .O bg) (aq (bu 5 dA.nd rfl .p (gn DI_Gain hr rfl (af .O (af .O (.ab .O))) (ah .dY)))
  (aq (.J (jS (.t (.af 5) .O) (jS (.t (bU hf_by (.a 5)) .O) (kS (.t (bU hf_source (.a 5)) .O)))) (.D tN))
  (.D (aL q131 hr rfl (af (.a 5) (af (.a 0) (af (.a 1) (.f 2)))) (ah (ah .dY)))))) bE)
  (aq (cz (.r .O bg) (aq (bu 6 dA.nd rfl .p (gn DI_Sum hr rfl (af .O (.ab .O)) .dY))
  (.D (gj (eU .ah (.af 6) .O (aX _)) (.l hf_terms 6)))) bE)
  (aq (bu 7 dA.nd rfl .p (gn DI_Out hr rfl (.ab .O) .aq))
  (.D (.l hf_source 7)))))))
end
end My
set_option maxHeartbeats 4000000
namespace My
open PySem PySem.Spec PyProof.Rows L2 TM
variable {K:.l}
abbrev we:Stmt:=top 79
def Fj (q51 q50 q38 q39 q40 q41 q43:Addr)(q132 q119 q133 q134 q135 q136 q137:.R)(dM_Wiring__parts dM_Part__tells dM_In__tells dM_Cell__tells dM_Gain__tells dM_Sum__tells dM_Out__tells:.R)(dI_Wiring:.fa):FS:=
  (aF (bA 1 (ao q133 (.e (ao q132 (bM 0)) (ao q119 (.c 0 (az 3))))))
  (qf 2 (mz (AN 2 (km (bM 1)) .fm (La 2 (cw (ar qg (.a bz 4 0) (fC (.str "out")))) (uk 2 (.a bz 4 1) (.m q134 (.Y q119))) pj))
  (mz (uk 2 (fC (.str "no name")) (cZ (.e (az 1) (az 7))))
  (zEnd 2 (aF (bA 5 (.h Cq 2))
  (aF (fz (lH (ag (dP [(q51,dM_Wiring__parts)] "parts" (hX q51 dI_Wiring (.ay (.h q135 1))) au) (bM 1))) (bK (.a 6 4)) (aF (bA 7 (dP [(q50,dM_Part__tells),(q38,dM_In__tells),(q39,dM_Cell__tells),(q40,dM_Gain__tells),(q41,dM_Sum__tells),(q43,dM_Out__tells)] "tells" (ae 6) (bM 5)))
  (aF (.D (uq (iG (.ar 7)) (uq (cw (ar qg (.h cn 7) (az 2))) (cw (ar qg (ae 7) (ao q136 (.o 4 2)))))) (fC .Q))
  (aF (fz (aZ (ae 7)) (ai 8) .aR)
  (.D (iG (cq (ao q137 (ag (ae 4) (.o 5 7))))) (fC .Q))))))
  (bj (.c Gd 5 2)))))))))
theorem jC:aK ["_law_script","_law_laid_here","_law_values","_law_k","_law_part","_law_handed","_law_thing","_law_found","_law_number"] ["_law_script"] (ax we):=by walk_at "sc"
theorem LB (F:eK K "law" "law" we f fd)(q138:Def P w K mg base k "_law_parts" 1 q132)(q122:Def P w K mg base k "_law_cell" 2 q119)(q139:Def P w K mg base k "_law_laid" 2 q133)(q140:Def P w K mg base k "_law_value" 1 q134)(q141:Def P w K mg base k "_law_text" 1 q135)(q142:Def P w K mg base k "_law_due" 2 q136)(q143:Def P w K mg base k "_law_by_hand" 3 q137)(DM_parts:∀a∈[(q51,dM_Wiring__parts)],cV P w K mg base k a.1 "parts" 1 a.2)(DM_tells:∀a∈[(q50,dM_Part__tells),(q38,dM_In__tells),(q39,dM_Cell__tells),(q40,dM_Gain__tells),(q41,dM_Sum__tells),(q43,dM_Out__tells)],cV P w K mg base k a.1 "tells" 2 a.2)(DI_Wiring:gx P w K mg base k "Wiring" q51 1 dI_Wiring)(q72:mg "enumerate" = none)(q144:mg "dict" = none)(q114:mg "zip" = none)(q12:mg "tuple" = none)(q6:.cO)(q13:.dG)(q5:mg "int" = none)(q7:mg "bool" = none):
  iz P w K mg base ur (k+1) f fd ["_law_script"] (spT K 1 (cg 9 1 (Fj q51 q50 q38 q39 q40 q41 q43 q132 q119 q133 q134 q135 q136 q137 dM_Wiring__parts dM_Part__tells dM_In__tells dM_Cell__tells dM_Gain__tells dM_Sum__tells dM_Out__tells dI_Wiring))):=
 IU F jC fun cdv A outer s H E hr=>(aq (bu 1 jC.nd rfl .p (.f q139 (.j (aL q138 hr rfl (.ab (.a 0)) (ah aB)) (.aj (.ab aj)))))
  (AH jC.nd rfl .p (tY (HU PassesOwn.never rfl (Dt rfl q72 (.f 1)) (.X (aG 3 jC.nd rfl .p) (aU (aG 4 jC.nd rfl .p) cO)) (rf (K8 (.t (.v 4 aj) bg) (rf (B0 hr.units (pv 2) (.v 4 aj) (aL q140 hr rfl (.ab (aI bp (.f q122 (.j (.a 0) (.O aj 3))) (aI dr aj (.a 3)))) .aq))) yt)))
  (tY (B0 hr.units (pv 2) bg (dN (af aj (.ab aj))))
  (DB (aq (bu 5 jC.nd rfl .p (bQ IC rfl q144 rfl (.f 2)))
  (aq (fW PassesOwn.never rfl (BV rfl q114 (af (mm DM_parts hr (gn DI_Wiring hr rfl (.ab (.p q141 1)) .aq)) (.f 1))) (.X (aG 6 jC.nd rfl .p) (aU (aG 4 jC.nd rfl .p) cO)) (aq (bu 7 jC.nd rfl .p (Dj DM_tells hr (.a 6) (.f 5) (fun τ ts τ' e=>congrArg (· + 1) ((.aq) τ ts τ' e))))
  (aq (.J (jS (iO (cM (.i 7 q12))) (jS (.t (.L (.f 7)) aj) (kS (bq (lS hr.units) (.a 7) (.f q142 (.j (.a 4) (.a 2))) (aX _))))) (.D tN))
  (aq (fW PassesOwn.never rfl (cL (.a 7)) (aG 8 jC.nd rfl .p) (aw (.J (jS (iO (cM (.i 8 q5))) (kS (cM (.i 8 q7)))) (.D tN))))
  (aw (cz (iO (cM (aL q143 hr rfl (af (.a 4) (af (.a 5) (.f 7))) (ah .dY)))) (.D tN) bE))))))
  (.D (eU (Mc hr.units2) (.a 5) (.a 2) (aX _))))))))))
end My
namespace Qm
abbrev jH (a b:Int):Prop:=Int.gcd a b=1
theorem wK {a b:Int}(h:Nat.Coprime a.natAbs b.natAbs):jH a b:=h
theorem jH.symm {a b:Int}(h:jH a b):jH b a:=by unfold jH;rw [Int.gcd_comm];exact h
theorem jH.mulL {a b c:Int}(h:jH a c)(h':jH b c):jH (a*b) c:=wK (by rw [zaI];exact Nat.Coprime.mul_left h h')
theorem jH.mulR {a b c:Int}(h:jH c a)(h':jH c b):jH c (a*b):=wK (by rw [zaI];exact Nat.Coprime.mul_right h h')
theorem jH.dvdL {a b c:Int}(h:jH b c)(d:a∣b):jH a c:=wK (Nat.Coprime.coprime_dvd_left (Int.natAbs_dvd_natAbs.mpr d) h)
theorem jH.dvdR {a b c:Int}(h:jH c b)(d:a∣b):jH c a:=wK (Nat.Coprime.coprime_dvd_right (Int.natAbs_dvd_natAbs.mpr d) h)
theorem jH.addL {a b c:Int}(h:jH a c):jH (a+b*c) c:=by unfold jH;rw [Int.gcd_add_mul_right_left];exact h
theorem split {a b:Int}(h:b≠0):∃x y:Int,a=.d9*x/\b=.d9*y/\jH x y/\(Int.gcd a b:Int)≠0:=by
 have hg:.d9≠0:=by
  intro z
  have:Int.gcd a b=0:=.e
  rw [Int.gcd_eq_zero_iff] at this
  exact h this.2
 obtain⟨x,hx⟩:=zbD a b
 obtain⟨y,hy⟩:=zbm a b
 refine⟨x,y,hx,hy,?_,hg⟩
 have e:Int.gcd a b=Int.gcd a b*Int.gcd x y:=by
  have:=zbZ .d9 x y
  rw [<- hx,<- hy] at this
  simpa using this
 have hp:0<Int.gcd a b:=.e
 have:=Nat.eq_of_mul_eq_mul_left hp (show Int.gcd a b*Int.gcd x y=Int.gcd a b*1 by omega)
 exact this
theorem fP {a g x:Int}(h:a=g*x)(hg:g≠0):a.fdiv g=x:=by rw [h];exact Int.mul_fdiv_cancel_left x hg
theorem Mu {a b c d:Int}(hb:0<b)(hd:0<d)(h1:jH a b)(h2:jH c d)(s top low:Int)(es:s=Int.gcd b d)(et:top=a*d.fdiv s+c*b.fdiv s)(el:low=Int.gcd top s):
  top.fdiv low=(a*d+c*b).fdiv (Int.gcd (a*d+c*b) (b*d))/\b.fdiv s*d.fdiv low=(b*d).fdiv (Int.gcd (a*d+c*b) (b*d))/\s≠0/\low≠0:=by
 obtain⟨x,y,hx,hy,hc,hs⟩:=split (a:=b) (b:=d) .e
 rw [<- es] at hx hy hs
 have ex:b.fdiv s=x:=fP hx hs
 have ey:d.fdiv s=y:=fP hy hs
 rw [ex,ey] at et
 have cx:jH top x:=by
  have q1:jH (a*y) x:=jH.mulL (h1.dvdR ⟨s,by rw [hx,zbh]⟩) hc.symm
  have q2:=q1.addL (b:=c)
  rw [<- et] at q2
  exact q2
 have cy:jH top y:=by
  have q1:jH (c*x) y:=jH.mulL (h2.dvdR ⟨s,by rw [hy,zbh]⟩) hc
  have q2:=q1.addL (b:=a)
  rw [Int.add_comm,<- et] at q2
  exact q2
 obtain⟨u,v,hu,hv,_,hl⟩:=split (a:=top) (b:=s) hs
 rw [<- el] at hu hv hl
 have e1:a*d+c*b=s*top:=by
  rw [et]
  calc a*d+c*b=a*(s*y)+c*(s*x):=by rw [<- hx,<- hy]
   _=s*(a*y+c*x):=by rw [Int.mul_add,zbg,zbg c]
 have e2:b*d=s*(x*(y*s)):=by
  calc b*d=(s*x)*(s*y):=by rw [<- hx,<- hy]
   _=s*(x*(y*s)):=by rw [zbi,zbh y s]
 have sp:0≤s:=by rw [es];omega
 have lp:0≤low:=by rw [el];omega
 have eg:((Int.gcd (a*d+c*b) (b*d):Nat):Int)=s*low:=by
  rw [e1,e2,zbZ]
  have k1:Int.gcd top (x*(y*s))=Int.gcd top s:=by
   show Nat.gcd top.natAbs (x*(y*s)).natAbs=Nat.gcd top.natAbs s.natAbs
   rw [zaI,zaI,zbp _ (Nat.Coprime.symm cx),zbp _ (Nat.Coprime.symm cy)]
  rw [k1,el]
  push_cast
  rw [zbF sp]
 have hsl:s*low≠0:=Int.mul_ne_zero hs hl
 have tl:top.fdiv low=u:=fP hu hl
 have dl:d.fdiv low=v*y:=fP (by rw [hy,hv,zbi]) hl
 refine⟨?_,?_,hs,hl⟩
 ·rw [eg,tl,e1]
  exact (fP (by rw [zbi,<- hu]) hsl).symm
 ·rw [eg,ex,dl,e2]
  refine (fP ?_ hsl).symm
  calc s*(x*(y*s))=s*(x*(y*(low*v))):=by rw [<- hv]
   _=s*low*(x*(v*y)):=by
    rw [zbi s low]
    congr 1
    rw [zbg y low v,zbg x low,zbh y v]
theorem Km {a b c d:Int}(hb:0<b)(hd:0<d)(h1:jH a b)(h2:jH c d)(l r:Int)(el:l=Int.gcd a d)(er:r=Int.gcd c b):
  a.fdiv l*c.fdiv r=(a*c).fdiv (Int.gcd (a*c) (b*d))/\b.fdiv r*d.fdiv l=(b*d).fdiv (Int.gcd (a*c) (b*d))/\l≠0/\r≠0:=by
 obtain⟨a',d',ha,hd',c1,hl⟩:=split (a:=a) (b:=d) .e
 obtain⟨c',b',hc,hb',c2,hr⟩:=split (a:=c) (b:=b) .e
 rw [<- el] at ha hd' hl
 rw [<- er] at hc hb' hr
 have k:jH (a'*c') (b'*d'):=by
  have ab:jH a' b':=(h1.dvdL ⟨l,by rw [zbh];exact ha⟩).dvdR ⟨r,by rw [zbh];exact hb'⟩
  have cd:jH c' d':=(h2.dvdL ⟨r,by rw [zbh];exact hc⟩).dvdR ⟨l,by rw [zbh];exact hd'⟩
  exact jH.mulR (jH.mulL ab c2) (jH.mulL c1 cd)
 have e1:a*c=l*r*(a'*c'):=by
  calc a*c=(l*a')*(r*c'):=by rw [<- ha,<- hc]
   _=l*r*(a'*c'):=by rw [zbi,zbg a' r c',zbi]
 have e2:b*d=l*r*(b'*d'):=by
  calc b*d=(r*b')*(l*d'):=by rw [<- hb',<- hd']
   _=l*r*(b'*d'):=by rw [zbi,zbg b' l d',<- zbi,zbh r l]
 have lp:0≤l:=by rw [el];omega
 have rp:0≤r:=by rw [er];omega
 have eg:((Int.gcd (a*c) (b*d):Nat):Int)=l*r:=by
  rw [e1,e2,zbZ,k]
  push_cast
  rw [Int.mul_one,zbF (Int.mul_nonneg lp rp)]
 have hlr:l*r≠0:=Int.mul_ne_zero hl hr
 refine⟨?_,?_,hl,hr⟩
 ·rw [eg,fP ha hl,fP hc hr]
  exact (fP e1 hlr).symm
 ·rw [eg,fP hb' hr,fP hd' hl]
  exact (fP e2 hlr).symm
end Qm
namespace Rq
end Rq
namespace My
open PySem PySem.Spec PyProof.Rows L2 TM
abbrev one (c:Nat):Str:=⟨#[c]⟩
def cs (x:Str):List Nat:=x.cps.toList
theorem wL (a b:Str):cs (a++b)=cs a++cs b:=Array.toList_append
theorem A8 {a b:Str}(h:cs a=cs b):a=b:=by
 cases a;cases b
 exact congrArg Str.mk (Array.ext' h)
theorem Lm (a:Str):a.length=(cs a).length:=by cases a;rfl
theorem Lh (x:Str)(c i:Nat):StrLaws.At x (one c) x.length i ↔ (cs x)[i]? = some c:=StrLaws.subAt_one x c i
theorem parts_free {x:Str}{c:Nat}:∀{cuts:.I} {lo f:Nat},StrLaws.ChainG x (one c) x.length lo cuts f->(∀k,f≤k->¬ StrLaws.At x (one c) x.length k)->∀p∈StrLaws.partsFrom x 1 lo cuts,c∉cs p
 |[],lo,f,h,hf,p,hp=>by
  rw [StrLaws.ChainG.eq_1] at h
  subst h
  rw [StrLaws.partsFrom.eq_1,zac] at hp
  subst hp
  exact StrLaws.part_free x c _ _ .bU fun k h1 _=>hf k h1
 |i::r,lo,f,h,hf,p,hp=>by
  rw [StrLaws.ChainG.eq_2] at h
  obtain⟨h1,h2,h3,h4⟩:=h
  rw [StrLaws.partsFrom.eq_2] at hp
  rcases zan.mp hp with rfl | hp
  ·refine StrLaws.part_free x c _ _ ?_ h3
   have:=h2.1
   omega
  ·exact parts_free (cuts:=r) h4 hf p hp
theorem split_free (x:Str)(c:Nat):∀p∈Txt.split x (one c),c∉cs p:=fun p hp=>by
 unfold Txt.split at hp
 obtain⟨f,h1,h2⟩:=StrLaws.occ_tight x (one c) (zak 1)
 split at hp
 ·next h =>
  rw [zac] at hp
  subst hp
  rw [Bool.or_eq_true,decide_eq_true_eq,decide_eq_true_eq] at h
  rcases h with h | h
  ·have hz:(cs p).length=0:=by rw [<- Lm];exact Nat.lt_one_iff.mp h
   rw [List.length_eq_zero_iff.mp hz]
   exact zap
  ·exact StrLaws.kind_free p c h
 ·split at hp
  ·next h =>
   rw [zac] at hp
   subst hp
   rw [List.isEmpty_iff.mp h,StrLaws.ChainG.eq_1] at h1
   subst h1
   intro m
   obtain⟨i,hi,e⟩:=zbJ m
   exact h2 i (za6 _) ((Lh p c i).mpr (by rw [zav hi,e]))
  ·rw [StrLaws.partsBetween_eq] at hp
   exact parts_free h1 h2 p hp
def jl (c:Nat):List .ce->List Nat
 |[]=>[]
 |[p]=>p
 |p::q::r=>p++c::jl c (q::r)
theorem ko {c:Nat}{p q:.I}{r:.U}:jl c (p::q::r)=p++c::jl c (q::r):=rfl
theorem qN (c:Nat):∀ps:List Str,cs ((one c).join ps)=jl c (ps.map cs)
 |[]=>rfl
 |[p]=>by rw [Str.join.eq_2];rfl
 |p::q::r=>by
  rw [Str.join.eq_3 _ _ _ (fun h=>by cases h),wL,wL,qN c (q::r),zaO]
  rfl
theorem zM {c:Nat}:∀{p q r s:.I},c∉p->c∉q->p++c::r=q++c::s->p=q/\r=s
 |[],[],r,s,_,_,h=>⟨rfl,by simpa using h⟩
 |[],b::q,r,s,_,h2,h=>by
  simp only [List.nil_append,List.cons_append,List.cons.injEq] at h
  exact absurd (by rw [h.1];exact zad) h2
 |a::p,[],r,s,h1,_,h=>by
  simp only [List.nil_append,List.cons_append,List.cons.injEq] at h
  exact absurd (by rw [h.1];exact zad) h1
 |a::p,b::q,r,s,h1,h2,h=>by
  simp only [List.cons_append,List.cons.injEq] at h
  obtain⟨e1,e2⟩:=zM (fun m=>h1 (zae _ m)) (fun m=>h2 (zae _ m)) h.2
  exact⟨by rw [h.1,e1],e2⟩
theorem GC {c:Nat}:∀{ps qs:.U},ps≠[]->qs≠[]->(∀p∈ps,c∉p)->(∀q∈qs,c∉q)->jl c ps=jl c qs->ps=qs
 |[],_,h,_,_,_,_=>absurd rfl h
 |_,[],_,h,_,_,_=>absurd rfl h
 |[p],[q],_,_,_,_,h=>by rw [show p=q from h]
 |[p],q::q2::qs,_,_,h1,_,h=>by
  rw [ko] at h
  exact absurd (show c∈p by rw [show p=q++c::jl c (q2::qs) from h];simp) (h1 p List.mem_cons_self)
 |p::p2::ps,[q],_,_,_,h2,h=>by
  rw [ko] at h
  exact absurd (show c∈q by rw [<- (show p++c::jl c (p2::ps)=q from h)];simp) (h2 q List.mem_cons_self)
 |p::p2::ps,q::q2::qs,_,_,h1,h2,h=>by
  rw [ko,ko] at h
  obtain⟨e1,e2⟩:=zM (h1 p zad) (h2 q zad) h
  rw [e1,GC .h .h (fun z hz=>h1 z (.I hz)) (fun z hz=>h2 z (.I hz)) e2]
theorem sJ:∀{ps qs:.Y},ps.map cs=qs.map cs->ps=qs
 |[],[],_=>rfl
 |[],_::_,h=>by cases h
 |_::_,[],h=>by cases h
 |p::ps,q::qs,h=>by
  simp only [List.map_cons,List.cons.injEq] at h
  rw [A8 h.1,sJ h.2]
theorem HL (x y:Str):Txt.split x y≠[]:=by
 unfold Txt.split
 split
 ·simp
 ·split
  ·simp
  ·rw [StrLaws.partsBetween_eq]
   obtain⟨p,r,e⟩:=StrLaws.partsFrom_ne x y.length 0 (Builtin.Str.occurrences x y 0 x.length (x.length+1))
   rw [e]
   simp
theorem BW {c:Nat}{ps:.Y}(h:ps≠[])(hf:∀p∈ps,c∉cs p):Txt.split ((one c).join ps) (one c)=ps:=by
 refine sJ (GC (c:=c) ?_ ?_ ?_ ?_ ?_)
 ·intro z
  exact HL _ _ (List.map_eq_nil_iff.mp z)
 ·intro z
  exact h (List.map_eq_nil_iff.mp z)
 ·intro p hp
  obtain⟨q,hq,rfl⟩:=zao.mp hp
  exact split_free _ c q hq
 ·intro p hp
  obtain⟨q,hq,rfl⟩:=zao.mp hp
  exact hf q hq
 ·rw [<- qN,StrLaws.join_split,qN]
theorem AJ (c:Nat)(ps:.Y):Txt.join (one c) ps=(one c).join ps:=by
 cases ps with
 |nil=>rfl
 |cons p ps=>exact StrLaws.glued_cons (one c) ps p
theorem QT:(17:Nat)≤sizeLine:=aW .f
theorem Sk:(6:Nat)<sizeLine:=bT .f
theorem Ge {a b c d:Int}:eJ (.tup .dC) (.tup [.int c,.int d])=some (.bl (decide (a=c)&&decide (b=d))):=by
 have e:eJ (.tup .dC) (.tup [.int c,.int d])=some (.bl ((a == c)&&((b == d)&&true))):=rfl
 rw [e,Bool.and_true,zbl,zbl]
theorem Ed {x y:Bool}:eJ (.lst [.bl x,.bl y]) (.lst [.bl x,.bl y])=some .bK:=by
 have e:eJ (.lst [.bl x,.bl y]) (.lst [.bl x,.bl y])=some (.bl ((x == x)&&((y == y)&&true))):=rfl
 rw [e,beq_self_eq_true,beq_self_eq_true]
 rfl
theorem ph:∀(n:Nat) (u:.aW) (x y:Nat),y<n->cU (cw (.a qg 1 0)) .eh n [fQ (.j x),fQ (.j y),u]
  = some (.nx [fQ (.j (Nat.gcd x y)),fQ (.j 0),u])
 |0,_,_,_,h=>.e
 |n+1,u,x,y,h=>by
  unfold cU
  by_cases hy:y=0
  ·subst hy
   have h0:((0:Nat):Int)=0:=rfl
   walk_at "ev"
   simp
  ·have hy':¬ ((y:Int)=0):=.e
   have hm:Int.fmod (x:Int) (y:Int)=((x%y:Nat):Int):=by rw [zaS _ .e];rfl
   have hg:Nat.gcd x y=Nat.gcd y (x%y):=by rw [zb2 x y,Nat.gcd_rec y x,zb2]
   have ih:=ph n u y (x%y) (by have:=zaY x (zbQ hy);omega)
   rw [hg]
   clear hg h hy
   walk_at "ev"
theorem wx:∀(n:Nat) (u v:.aW) (x y:Nat),y<n->cU (cw (.a qg 3 0)) (uw 2 3 (.e (ae 3) (ar dM (ae 2) (ae 3)))) n [u,v,fQ (.j x),fQ (.j y)]
  = some (.nx [u,v,fQ (.j (Nat.gcd x y)),fQ (.j 0)])
 |0,_,_,_,_,h=>.e
 |n+1,u,v,x,y,h=>by
  unfold cU
  by_cases hy:y=0
  ·subst hy
   have h0:((0:Nat):Int)=0:=rfl
   walk_at "ev"
   simp
  ·have hy':¬ ((y:Int)=0):=.e
   have hm:Int.fmod (x:Int) (y:Int)=((x%y:Nat):Int):=by rw [zaS _ .e];rfl
   have hg:Nat.gcd x y=Nat.gcd y (x%y):=by rw [zb2 x y,Nat.gcd_rec y x,zb2]
   have ih:=wx n u v y (x%y) (by have:=zaY x (zbQ hy);omega)
   rw [hg]
   clear hg h hy
   walk_at "ev"
theorem uh {ft:FT}{fb:FS}{τ τ':aD}{n:Nat}(h:ft τ=some (false,τ'))(hn:0<n):cU ft fb n τ=some (.nx τ'):=by
 obtain⟨m,rfl⟩:∃m,n=m+1:=⟨n-1,.e⟩
 unfold cU
 rw [h]
 rfl
theorem NC:0<B:=.c
theorem bits_le {x:Int}(h:x.natAbs<B):¬ ((Builtin.Int.intBits x:Int)>4000):=by
 unfold Builtin.Int.intBits
 by_cases h0:x=0
 ·subst h0;decide
 ·rw [if_neg (by simpa using h0)]
  have:x.natAbs.log2<4000:=(Nat.log2_lt .e).mpr h
  omega
def jc:List T->Option T
 |[.int a,.int b]=>if a.natAbs<B/\b.natAbs<B then some (.j (Int.gcd a b)) else none
 |_=>none
theorem iI {a b:Int}(ha:a.natAbs<B)(hb:b.natAbs<B):jc .dC=some (.j (Int.gcd a b)):=if_pos ⟨ha,hb⟩
theorem EJ (ts:List T)(t:T)(h:jc ts=some t):cg 3 2 (rD B (fun _=>none)) ts=some t:=by
 unfold jc at h
 split at h
 ·next a b =>
  split at h
  ·next hb =>
   cases h
   have hw:=ph B none a.natAbs b.natAbs (hb.2)
   have hbits:=bits_le (x:=((b.natAbs:Nat):Int)) (by simpa using hb.2)
   have hgt:Bm (.j (Builtin.Int.intBits ((b.natAbs:Nat):Int))) (.j 4000)=some .Q:=by
    show some (T.bl (decide _))=_
    rw [decide_eq_false hbits]
   have hno:cU .dV (aF .eh (bZ .dV (kj (ao (fun _=>none) (.o 0 1)) (bK (ay (ai 0) (.a 1 2)))) bH)) B [fQ (.j (a.natAbs:Nat)),fQ (.j (b.natAbs:Nat)),none]
     = some (.nx [fQ (.j (a.natAbs:Nat)),fQ (.j (b.natAbs:Nat)),none]):=uh (by
      clear hw hbits
      walk_at "ev") NC
   unfold cg rD
   clear hb hbits hgt
   walk_at "ev"
   rfl
  ·cases h
 ·cases h
def sg (a b:Int):Int:=if b<0 then -(Int.gcd a b:Int) else .d9
def Bk (a b:Int):T:=.tup [.int (a.fdiv (sg a b)),.int (b.fdiv (sg a b))]
def iJ:List T->Option T
 |[.int a,.int b]=>if a.natAbs<B/\b.natAbs<B/\0<b then some (Bk a b) else none
 |_=>none
theorem zP {a b:Int}(ha:a.natAbs<B)(hb:b.natAbs<B)(h0:0<b):iJ .dC=some (Bk a b):=if_pos ⟨ha,hb,h0⟩
theorem Gq {a b:Int}(h0:b≠0):¬ ((.av a):Int)=0:=by
 intro h
 have:Int.gcd a b=0:=.e
 rw [Int.gcd_eq_zero_iff] at this
 exact h0 this.2
theorem zq {a b:Int}(hb:b.natAbs<B)(h0:b≠0):Int.gcd a b<B:=by
 have h1:Int.gcd a b∣b.natAbs:=Int.gcd_dvd_natAbs_right a b
 have:=Nat.le_of_dvd .e h1
 omega
theorem AF (ts:List T)(t:T)(h:iJ ts=some t):cg 4 2 (lD B) ts=some t:=by
 unfold iJ at h
 split at h
 ·next a b =>
  split at h
  ·next hb =>
   cases h
   obtain⟨ha,hb,h0⟩:=hb
   have h2:=Gq (a:=a) (b:=b) .e
   have h3:=zq (a:=a) hb .e
   have h4:((.av a):Int).natAbs<B:=.e
   have hw:=wx B (fQ (.j a)) (fQ (.j b)) a.natAbs b.natAbs hb
   have hbb:((b.natAbs:Nat):Int)=b:=.e
   rw [hbb] at hw
   have hg:Nat.gcd a.natAbs b.natAbs=Int.gcd a b:=rfl
   unfold cg lD
   have e:Bk a b=.tup [.int (a.fdiv .d9),.int (b.fdiv .d9)]:=by unfold Bk sg;rw [if_neg .e]
   clear h0 hbb
   walk_at "ev"
  ·cases h
 ·cases h
theorem NB:(10:Nat)^100<B:=.c
theorem NL {i:Int}(h1 : -(10:Int)^100<i)(h2:i<(10:Int)^100):i.natAbs<B:=by
 have:=NB
 have h3:((10:Nat)^100:Nat)=10000000000000000000000000000000000000000000000000000000000000000000000000000000000000000000000000000:=.c
 have h4:(10:Int)^100=10000000000000000000000000000000000000000000000000000000000000000000000000000000000000000000000000000:=.c
 omega
def S (l:.I):Str:=⟨l.toArray⟩
theorem Fd (x:Str):S x.cps.toList=x:=by cases x;simp [S]
theorem eh (l:.I):(S l).cps.toList=l:=by simp [S]
theorem cj (l:.I):(S l).length=l.length:=by simp [S,Str.length]
theorem Cg (a b:.I):S a++S b=S (a++b):=by
 show (⟨(S a).cps++(S b).cps⟩:Str)=_
 simp [S]
theorem Ci {a b:.I}(h:S a=S b):a=b:=by
 have:=congrArg (fun x:Str=>x.cps.toList) h
 simpa [S] using this
theorem Fb {x:Str}{l:.I}(h:x.cps.toList=l):x=S l:=by rw [<- h,Fd]
def ds (n:Nat):List Nat:=(Nat.toDigits 10 n).map Char.toNat
theorem Kg (n:Nat):Str.ofString (toString ((n:Nat):Int))=S (ds n):=Fb (PySem.W.KIN.signs_num n)
theorem Kh (n:Nat):Str.ofString (toString (-((n+1:Nat):Int)))=S (45::ds (n+1)):=by
 refine Fb ?_
 rw [signs_ofString]
 show (("-"++Nat.repr (n+1)).toList).map Char.toNat=_
 rw [String.toList_append,zaH,Nat.toList_repr]
 rfl
theorem fX (n:Nat):NumText.AllDigits (ds n):=by
 intro c hc
 obtain⟨ch,hch,e⟩:=zao.mp hc
 have r:=digit_range (Nat.isDigit_of_mem_toDigits .f .f hch)
 rw [<- e]
 exact r
theorem Bf (n:Nat):NumText.digitsVal (ds n)=n:=PySem.W.KIN.val_back n
theorem yW (n:Nat):ds n≠[]:=by
 intro e
 have h:1≤(Nat.toDigits 10 n).length:=Nat.length_toDigits_pos
 have:=congrArg List.length e
 unfold ds at this
 rw [zah] at this
 simp at this
theorem qe {n:Nat}(h:n<10):ds n=[48+n]:=by
 unfold ds
 rw [Nat.toDigits_of_lt_base h,NumText.digitChar_of n h]
 have:∀m:Nat,m<10->(Char.ofNat (48+m)).toNat=48+m:=.f
 simp [this n h]
theorem qP {m d:Nat}(hm:0<m)(hd:d<10):ds (10*m+d)=ds m++ds d:=by
 unfold ds
 rw [<- Nat.toDigits_append_toDigits .f hm hd,zaH]
theorem Fy:∀(k q r:Nat),0<q->r<10^(k+1)->ds (q*10^(k+1)+r)=ds q++(List.replicate (k+1-(ds r).length) 48++ds r)
 |0,q,r,hq,hr=>by
  have hr:r<10:=by simpa using hr
  rw [show q*10^(0+1)+r=10*q+r by simp;omega,qP hq hr,qe hr]
  rfl
 |k+1,q,r,hq,hr=>by
  have h1:r/10<10^(k+1):=by
   rw [zbA .f]
   rw [zb3] at hr
   exact hr
  have h2:r%10<10:=zaY _ .f
  have h3:q*10^(k+1+1)+r=10*(q*10^(k+1)+r/10)+r%10:=by
   rw [zb3 10 (k+1),<- Nat.mul_assoc]
   have:=zbK r 10
   omega
  have h4:0<q*10^(k+1)+r/10:=by
   have:0<q*10^(k+1):=Nat.mul_pos hq (Nat.pow_pos .f)
   omega
  rw [h3,qP h4 h2,Fy k q (r/10) hq h1]
  by_cases h5:r/10=0
  ·have h6:r<10:=.e
   have h7:r%10=r:=Nat.mod_eq_of_lt h6
   rw [h5,h7,qe h6,qe (show 0<10 by decide)]
   simp only [List.length_singleton,List.append_assoc,Nat.add_sub_cancel]
   congr 1
   rw [show k+1=k+1 from rfl,List.replicate_succ' (n:=k)]
   simp
  ·have h6:ds r=ds (r/10)++ds (r%10):=by
    rw [<- qP .e h2,zbK]
   rw [h6,zai,qe h2,zau]
   simp only [List.append_assoc]
   rw [show k+1+1-((ds (r/10)).length+1)=k+1-(ds (r/10)).length by omega]
theorem fR:∀(k n:Nat),n<10^(k+1)->(ds n).length≤k+1
 |0,n,h=>by rw [qe .aC];exact Nat.le_refl _
 |k+1,n,h=>by
  by_cases h1:n<10
  ·rw [qe h1];simp
  ·have h2:n/10<10^(k+1):=by
    rw [zbA .f]
    rw [zb3] at h
    exact h
   have e:ds n=ds (n/10)++ds (n%10):=by
    rw [<- qP .e (zaY _ .f),zbK]
   have:=fR k (n/10) h2
   rw [e,zai,qe (zaY n (by decide:0<10)),zau]
   omega
theorem pe:Str.ofString "-" = S [45]:=.c
theorem ua:Str.ofString "/" = S [47]:=.c
theorem yx:Str.ofString "" = S []:=.c
theorem Pq:Str.ofString "1" = S [49]:=.c
theorem DM (l:.I)(c i:Nat):StrLaws.At (S l) (S [c]) (S l).length i ↔ l[i]? = some c:=by
 have:=StrLaws.subAt_one (S l) c i
 rw [eh] at this
 exact this
theorem wc (l:.I):Txt.removeprefix (S (45::l)) (S [45])=S l:=by
 rw [StrLaws.removeprefix_eq,if_pos]
 ·rw [eh,cj,cj]
  show S ((l.take (l.length+1-1)))=S l
  rw [Nat.add_sub_cancel,zbY]
 ·rw [cj,cj,StrLaws.subAt_eq,eh,eh,cj]
  simp
theorem wd {l:.I}(h:l.head?≠some 45):Txt.removeprefix (S l) (S [45])=S l:=by
 rw [StrLaws.removeprefix_eq,if_neg]
 rw [cj,cj,StrLaws.subAt_eq,eh,eh,cj]
 cases l with
 |nil=>simp
 |cons c r =>
  simp at h
  simp [h]
theorem JL {l:.I}(h:47∉l):Txt.partition (S l) (S [47])=(S l,S [],S []):=by
 rcases partition_whole (S l) (S [47]) with ⟨e,_⟩ | ⟨i,e,h1,_⟩
 ·exact e
 ·exact absurd (zbo ((DM l 47 i).mp h1)) h
theorem Hg {a b:.I}(h:47∉a):Txt.partition (S (a++47::b)) (S [47])=(S a,S [47],S b):=by
 have hg:(a++47::b)[a.length]? = some 47:=.h
 rcases partition_whole (S (a++47::b)) (S [47]) with ⟨_,h1⟩ | ⟨i,e,h1,h2⟩
 ·exact absurd ((DM _ 47 a.length).mpr hg) (h1 a.length)
 ·have h1':=(DM _ 47 i).mp h1
  have hi:i=a.length:=by
   rcases Nat.lt_trichotomy i a.length with hl | hl | hl
   ·rw [List.getElem?_append_left hl] at h1'
    exact absurd (zbo h1') h
   ·exact hl
   ·exact absurd ((DM _ 47 a.length).mpr hg) (h2 a.length hl)
  subst hi
  rw [e]
  have e1:Builtin.Str.strSub (S (a++47::b)) 0 a.length=S a:=Fb (by rw [StrLaws.strSub_toList,eh];simp)
  have e2:Builtin.Str.strSub (S (a++47::b)) (a.length+(S [47]).length) (S (a++47::b)).length=S b:=Fb (by
   rw [StrLaws.strSub_toList,eh,cj,cj]
   simp only [List.length_append,List.length_cons,List.length_nil,Nat.zero_add]
   rw [List.drop_append,List.drop_eq_nil_of_le .e,zbf,show a.length+1-a.length=1 by omega,show a.length+(b.length+1)-(a.length+1)=b.length by omega]
   show b.take b.length=b
   exact zbY)
  rw [e1,e2]
theorem Jf (c:Nat):qw (.str ⟨#[c]⟩) .eo=some (.an (48≤c/\c≤57))/\IZ (.str ⟨#[c]⟩) .eo=some (.bl (!decide (48≤c/\c≤57))):=by
 have hl:(Str.ofString "0123456789")=S [48,49,50,51,52,53,54,55,56,57]:=.c
 have hm:(Builtin.Str.occurrences (Str.ofString "0123456789") ⟨#[c]⟩ 0 (Str.ofString "0123456789").length 1).isEmpty = !decide (48≤c/\c≤57):=by
  rw [hl]
  rcases StrLaws.occ_head (S [48,49,50,51,52,53,54,55,56,57]) ⟨#[c]⟩ 1 (zak 1) with ⟨e,h⟩ | ⟨i,r,e,h,_⟩
  ·rw [e]
   have:¬ (48≤c/\c≤57):=fun hc=>by
    have:c∈[48,49,50,51,52,53,54,55,56,57]:=.j
    obtain⟨i,hi⟩:=List.mem_iff_getElem?.mp this
    exact h i ((DM _ c i).mpr hi)
   rw [decide_eq_false this]
   rfl
  ·rw [e]
   have:c∈[48,49,50,51,52,53,54,55,56,57]:=zbo ((DM _ c i).mp h)
   have:48≤c/\c≤57:=by simp at this;omega
   rw [decide_eq_true this]
   rfl
 refine⟨?_,?_⟩
 ·show some (T.bl (!(Builtin.Str.occurrences (Str.ofString "0123456789") ⟨#[c]⟩ 0 (Str.ofString "0123456789").length 1).isEmpty))=_
  rw [hm,Bool.not_not]
 ·show some (T.bl (Builtin.Str.occurrences (Str.ofString "0123456789") ⟨#[c]⟩ 0 (Str.ofString "0123456789").length 1).isEmpty)=_
  rw [hm]
theorem EV {l:.I}(h:NumText.AllDigits l)(hn:l≠[])(hl:l.length≤36):Txt.zfill (S l) 36=S (List.replicate (36-l.length) 48++l):=by
 unfold Txt.zfill
 rw [cj]
 by_cases h1:(36:Int)≤(l.length:Int)
 ·rw [if_pos h1,show 36-l.length=0 by omega]
  rfl
 ·rw [if_neg h1]
  show PySem.zfilled (S l) (36-l.length)=_
  unfold PySem.zfilled
  cases l with
  |nil=>exact absurd rfl hn
  |cons c r =>
   have hc:=h.head
   have e:(S (c::r)).cps[0]? = some c:=by simp [S]
   rw [e]
   have:∀y:Str,(match some c with | some 43=>y | some 45=>y | _=>Builtin.Str.padded (S (c::r)) (36-(c::r).length) 0 48)=Builtin.Str.padded (S (c::r)) (36-(c::r).length) 0 48:=by
    intro y
    split
    ·next h=>cases h;omega
    ·next h=>cases h;omega
    ·rfl
   refine (this _).trans ?_
   refine Fb ?_
   simp [Builtin.Str.padded,S]
theorem join_one (a:.I):Txt.join (S []) [S a]=S a:=by
 show Builtin.Str.glued (S []) [S a]=_
 rw [StrLaws.glued_eq_join]
 rfl
theorem GG (a b:.I):Txt.join (S []) [S a,S b]=S (a++b):=by
 show Builtin.Str.glued (S []) [S a,S b]=_
 rw [StrLaws.glued_eq_join]
 show S a++S []++S b=_
 rw [Cg,Cg,zax]
abbrev s (t:T):Option Sl:=fQ t
abbrev tx (l:.I):T:=.str (S l)
def KZ (c:Nat):Bool:=decide (48≤c/\c≤57)
def Ou (l:.I):Bool:=(decide (1≤l.length)&&decide (l.length≤30))&&l.all KZ
theorem Jk {l:.I}:Ou l=true ↔ (l≠[]/\l.length≤30)/\NumText.AllDigits l:=by
 unfold Ou NumText.AllDigits
 simp only [Bool.and_eq_true,decide_eq_true_eq,List.all_eq_true,KZ]
 constructor
 ·rintro ⟨⟨h1,h2⟩,h3⟩
  exact⟨⟨fun e=>by rw [e] at h1;simp at h1,h2⟩,h3⟩
 ·rintro ⟨⟨h1,h2⟩,h3⟩
  exact⟨⟨by cases l with | nil=>exact absurd rfl h1 | cons a b=>simp,h2⟩,h3⟩
abbrev Nd:List T->Option T:=cg 1 1 og
theorem dQ {α:Type}{φ:α->T}{fe:FE}{g:α->T}{ρ:aD}(hr:bL ρ=true):∀(l:List α) (u:.aW) (acc:List T),(∀x∈l,fe (fQ (φ x)::ρ)=some (g x,fQ (φ x)::ρ))->acc.length+l.length≤sizeLine->eD (ai 0) aS fe (l.map φ) (u::ρ) acc=some (acc++l.map g)
 |[],u,acc,_,_=>by simp [eD]
 |x::l,u,acc,h,hl=>by
  have hl':acc.length+(l.length+1)≤sizeLine:=hl
  rw [zaf,eD,show ai 0 (φ x) (u::ρ)=some (fQ (φ x)::ρ) from rfl,zaa,show aS (fQ (φ x)::ρ)=some (true,fQ (φ x)::ρ) from rfl,zaa,if_pos rfl,h x zad,zaa,if_pos ⟨hr,.e⟩,
   dQ hr l _ _ (fun z hz=>h z (.I hz)) .cu,List.map_cons,List.append_assoc]
  rfl
theorem aH {g:.cP}{f1 f2:FE}{τ τ1 τ2:aD}{a b t:T}(h1:f1 τ=some (a,τ1))(h2:f2 τ1=some (b,τ2))(h3:g a b=some t):ar g f1 f2 τ=some (t,τ2):=by
 unfold ar
 rw [h1,zaa]
 dsimp only
 rw [h2,zaa]
 dsimp only
 rw [h3]
 rfl
theorem Dw (l:.I):jF (S l)=l.map fun c=>T.str ⟨#[c]⟩:=by unfold jF;rw [eh]
theorem vy (f:Nat->Bool):∀l:List Nat,boolsOf (l.map fun c=>T.bl (f c))=some (l.map f)
 |[]=>rfl
 |c::l=>by
  show (boolsOf (l.map fun c=>T.bl (f c))).bind _=_
  rw [vy f l]
  rfl
theorem K2 {l:.I}(h:l.length≤1000):cn [tx l]=some (.int l.length):=by
 show (.ax (T.int (S l).length))=_
 rw [cj,if_pos (aW h)]
theorem KL (l:.I)(h:l.length≤1000):Nd [tx l]=some (.bl (Ou l)):=by
 have hcomp:(.L (so (ae 0)) (.q qw (fC  .eo ))) .d7=some (.lst (l.map fun c=>.bl (KZ c)),.d7):=by
  show (eD (ai 0) aS (.q qw (fC .eo)) (jF (S l)) [none] []).bind _=_
  rw [Dw,dQ (g:=fun c=>.bl (KZ c)) rfl l none [] (fun c _=>?_) (by simpa using aW h)]
  ·rfl
  ·exact aH rfl rfl (Jf c).1
 have hall:mP [.lst (l.map fun c=>.bl (KZ c))]=some (.bl (l.all KZ)):=by
  show (boolsOf _).bind _=_
  rw [vy]
  show some (T.bl ((l.map KZ).all id))=_
  rw [zb1]
  rfl
 have hlen:=K2 h
 have hch:(.ad 30) .d7=some (.bl (decide (1≤l.length)&&decide (l.length≤30)),.d7):=by
  have h0:(.h cn 0) .d7=some (.int l.length,.d7):=by
   show (cn [tx l]).bind _=_
   rw [hlen]
   rfl
  unfold gZ
  rw [show az 1 .d7=some (.int 1,.d7) from rfl,zaa]
  dsimp only
  rw [h0,zaa]
  show (some (T.bl (decide ((1:Int)≤(l.length:Int))))).bind _=_
  rw [zaa]
  by_cases h1:1≤l.length
  ·rw [decide_eq_true (show (1:Int)≤(l.length:Int) by omega),decide_eq_true h1]
   show some (T.bl (decide ((l.length:Int)≤30)),_)=_
   rw [zbn]
   congr 3
   exact decide_eq_decide.mpr .e
  ·rw [decide_eq_false (show ¬ (1:Int)≤(l.length:Int) by omega),decide_eq_false h1]
   rfl
 show (bj (fy (.ad 30) (.m mP (.L (so (ae 0)) (ar qw (ae 0) (fC  .eo ))))) .d7).bind _=_
 unfold Ou
 generalize (.ad 30)=fc at *
 generalize (.L (so (ae 0)) (.q qw (fC  .eo )))=fm at *
 generalize (decide (1≤l.length)&&decide (l.length≤30))=b at *
 cases b with
 |true =>
  rw [zbn]
  unfold bj fy
  rw [hch,zaa]
  dsimp only
  show ((((fm .d7).bind _).bind _).bind _).bind _=_
  rw [hcomp]
  show ((((mP [.lst (l.map fun c=>.bl (KZ c))]).bind _)).bind _).bind _=_
  rw [hall]
  rfl
 |false =>
  unfold bj fy
  rw [hch]
  rfl
abbrev Nc:List T->Option T:=cg 3 1 (vn 3)
theorem oq {n:Nat}(h:n<10^100):lb [.int n]=some (tx (ds n)):=by
 show (if (n:Int).natAbs.log2<1920 then some (T.str (Str.ofString (toString (n:Int)))) else none)=_
 rw [if_pos,Kg]
 show n.log2<1920
 by_cases h0:n=0
 ·rw [h0];decide
 ·refine (Nat.log2_lt h0).mpr (zaR h .c)
theorem Eg {a b:.I}(h:a.length+b.length≤1000):aR (tx a) (tx b)=some (tx (a++b)):=by
 rw [Ga (by rw [cj,cj];exact aW h),Cg]
theorem Ee {a:.I}(h:a.length≤1000):cX .dW (.lst [tx a])=some (tx a):=by
 show (if ((S a).length+0)+1*(Str.ofString "").length≤16777216 then some (T.str (Txt.join (Str.ofString "") [S a])) else none)=_
 rw [yx,cj,cj,if_pos .j,join_one]
theorem Ef {a b:.I}(h:a.length+b.length≤1000):cX .dW (.lst [tx a,tx b])=some (tx (a++b)):=by
 show (if ((S a).length+((S b).length+0))+2*(Str.ofString "").length≤16777216 then some (T.str (Txt.join (Str.ofString "") [S a,S b])) else none)=_
 rw [yx,cj,cj,cj,if_pos .j,GG]
def N8:FT:=(cw (.q Og (.aa 36)))
def N7:FS:=(aF (kj (ao NQ (.c 0 (.aa 36))) (bK (.a 0 2)))
  (fS 1 (ar LH (.h lb 2) (az 36))))
theorem K5:(.aa 36)=fun τ=>some (.int 1000000000000000000000000000000000000,τ):=by funext τ;kernel_rfl
theorem FP (n:Nat)(us:List T)(o:.aW):N8 .ee=some (decide (10^36≤n),.ee):=by
 unfold N8
 rw [K5]
 show some (decide ((1000000000000000000000000000000000000:Int)≤(n:Int)),_)=_
 congr 2
 exact decide_eq_decide.mpr .e
theorem Lx (n:Nat)(h:n<10^72)(us:List T)(hu:us.length≤10)(o:.aW):N7 .ee=some (.nx [s (.j ((n/10^36:Nat):Int)),some (.own (us++[tx .a2])),s (.j ((n%10^36:Nat):Int))]):=by
 have hr:n%10^36<10^36:=zaY _ .c
 have hd:NQ [.int n,.int 1000000000000000000000000000000000000]=some (.tup [.int ((n/10^36:Nat):Int),.int ((n%10^36:Nat):Int)]):=by
  show (if vk (n:Int) 1000000000000000000000000000000000000 then some (T.tup [.int ((n:Int).fdiv 1000000000000000000000000000000000000),.int ((n:Int).fmod 1000000000000000000000000000000000000)]) else none)=_
  rw [if_pos ⟨.f,NL .f .f⟩,za8 _ .f,zaS _ .f]
  rfl
 have hs:lb [.int ((n%10^36:Nat):Int)]=some (tx (ds (n%10^36))):=oq (zaR hr .c)
 have hz:LH (tx (ds (n%10^36))) (.j 36)=some (tx .a2):=by
  show (if PadOk 36=true then some (T.str (Txt.zfill (S (ds (n%10^36))) 36)) else none)=_
  rw [if_pos .c,EV (fX _) (yW _) (fR 35 _ hr)]
 have hl:us.length<sizeLine:=bT .e
 unfold N7
 rw [K5]
 generalize n%10^36=r at *
 generalize n/10^36=q at *
 generalize (List.replicate (36-(ds r).length) 48++ds r)=z at *
 clear h hr hu
 walk_at "ev"
theorem ui {ft:FT}{fb:FS}{n:Nat}{τ τ1 τ2:aD}(h1:ft τ=some (true,τ1))(h2:fb τ1=some (.nx τ2)):cU ft fb (n+1) τ=cU ft fb n τ2:=by
 rw [cU,h1,zaa,if_pos rfl,h2]
 rfl
theorem vI {n:Nat}(h:n<10^36)(us:List T)(o:.aW)(k:Nat):cU N8 N7 (k+1) .ee=some (.nx .ee):=
 uh (by rw [FP,decide_eq_false .e]) .e
theorem KI {n:Nat}(h:n<10^72):Nc [.int n]=some (tx (ds n)):=by
 have rest:∀(m:Nat) (us:List T) (o:.aW) (w:.I),m<10^36->us.length≤10->cX .dW (.lst (us++[tx (ds m)]).reverse)=some (tx w) ->
   (aF (fS 1 (.h lb 0)) .dx) [s (.j m),some (.own us),o]=some (.rt (tx w)):=by
  intro m us o w hm hu hj
  have hs:lb [.int m]=some (tx (ds m)):=oq (zaR hm .c)
  have hl:us.length<sizeLine:=bT .e
  have hv:∀vs:List T,(kl 1 (dU .d1)) [s (.j m),some (.own vs),o]=some (.lst vs.reverse,[s (.j m),some (.own vs),o]):=fun _=>rfl
  generalize (kl 1 (dU .d1))=fr at *
  clear hu hm
  walk_at "ev"
 show ((aF (bX 1 au) (aF (cU N8 N7 3) (aF (fS 1 (.h lb 0)) .dx))) [s (.j n),none,none]).bind _=_
 have h0:bX 1 au [s (.j n),none,none]=some (.nx [s (.j n),some (.own []),none]):=rfl
 by_cases h1:n<10^36
 ·have hr:=rest n [] none (ds n) h1 .h (by
   show cX .dW (.lst [tx (ds n)])=_
   exact Ee (zaA (fR 35 n h1) .f))
  have hw:=vI h1 [] none 2
  unfold aF at hr ⊢
  rw [h0,zaa]
  dsimp only
  rw [hw,zaa]
  dsimp only
  rw [hr]
  rfl
 ·have hq:n/10^36<10^36:=by
   rw [zbA .c]
   exact zat h .c
  have hq0:0<n/10^36:=Nat.div_pos .e .c
  have hr0:n%10^36<10^36:=zaY _ .c
  have he:ds n=ds (n/10^36)++(List.replicate (36-(ds (n%10^36)).length) 48++ds (n%10^36)):=by
   have:=Fy 35 (n/10^36) (n%10^36) hq0 hr0
   rw [Nat.mul_comm,zbK] at this
   exact this
  have hL1:=fR 35 _ hq
  have hL2:=fR 35 _ hr0
  have hb:=Lx n h [] .h none
  have hr:=rest (n/10^36) [tx .a2] (s (.j ((n%10^36:Nat):Int))) (ds n) hq .h (by
   show cX .dW (.lst [tx (ds (n/10^36)),tx .a2])=_
   rw [he]
   refine Ef ?_
   rw [zai,zba]
   omega)
  have hw:cU N8 N7 3 [s (.j n),some (.own []),none]=some (.nx [s (.j ((n/10^36:Nat):Int)),some (.own ([]++[tx .a2])),s (.j ((n%10^36:Nat):Int))]):=by
   rw [ui (by rw [FP,decide_eq_true .e]) hb]
   exact vI hq _ _ 1
  unfold aF at hr ⊢
  rw [h0,zaa]
  dsimp only
  rw [hw,zaa]
  dsimp only
  rw [zbf,hr]
  rfl
def gN (a:Int)(b:Nat):List Nat:=(if a<0 then [45] else [])++(ds a.natAbs++if b=1 then [] else 47::ds b)
abbrev yK (a:Int)(b:Nat):T:=.tup .dC
abbrev Nk:List T->Option T:=cg 3 1 (qa Nc)
abbrev NY:List T->Option T:=cg 1 1 jJ
theorem K7 {a:Int}{b:Nat}(ha:a.natAbs<10^72)(hb:b<10^72):Nk [yK a b]=some (tx (gN a b)):=by
 have h1:=KI ha
 have h2:=KI hb
 have hL1:=fR 71 _ ha
 have hL2:=fR 71 _ hb
 have h3:=rV a
 have h4:bz (yK a b) (.j 0)=some (.j a):=rfl
 have h5:bz (yK a b) (.j 1)=some (.j b):=rfl
 have h6:eJ (.j b) (.j 1)=some (.an (b=1)):=by
  rw [gQ]
  congr 2
  exact decide_eq_decide.mpr .e
 have h7:Gm (.j a) (.j 0)=some (.an (a<0)):=rfl
 show ((aF (bA 1 (vH (cw (ar Gm (.h 0) (az 0))) .cM (fC .dW)))
  (aF (bA 2 (.m Nc (ao rT (.ay (.h 0)))))
  (aF (.D (cw (.Q eJ .bh)) (.c aR 1 2))
  (bj (ar aR (ar aR (.c aR 1 2) (fC (.str "/"))) (.m Nc (.a bz 0 1))))))) [s (yK a b),none,none]).bind _=_
 rw [pe,yx,ua]
 have hsg:∃sg:List Nat,sg.length≤1/\(if a<0 then ([45]:List Nat) else [])=sg/\vH (cw (ar Gm (.h 0) (az 0))) (fC (.str (S [45]))) (fC (.str (S []))) [s (yK a b),none,none]=some (tx sg,[s (yK a b),none,none]):=by
  by_cases hn:a<0
  ·refine⟨[45],.f,if_pos hn,?_⟩
   rw [decide_eq_true hn] at h7
   clear h1 h2 hL1 hL2 ha hb h6
   walk_at "ev"
  ·refine⟨[],.f,if_neg hn,?_⟩
   rw [decide_eq_false hn] at h7
   clear h1 h2 hL1 hL2 ha hb h6
   walk_at "ev"
 obtain⟨sg,hsl,hse,hsg⟩:=hsg
 unfold gN
 rw [hse]
 have g1:aR (tx sg) (tx (ds a.natAbs))=some (tx (sg++ds a.natAbs)):=Eg .e
 have g2:aR (tx (sg++ds a.natAbs)) (tx [47])=some (tx .cg):=Eg .cu
 have g3:aR (tx .cg) (tx (ds b))=some (tx (.cg++ds b)):=Eg (by rw [List.length_append,List.length_append];simp;omega)
 generalize vH (cw (ar Gm (.h 0) (az 0))) (fC (.str (S [45]))) (fC (.str (S [])))=fi at *
 generalize Nc=dF at *
 by_cases hb1:b=1
 ·rw [decide_eq_true hb1] at h6
  rw [if_pos hb1,zax]
  generalize ds a.natAbs=da at *
  generalize ds b=db at *
  clear h2 hL1 hL2 ha hb hsl hse g2 g3 h7 hb1
  walk_at "ev"
 ·rw [decide_eq_false hb1] at h6
  rw [if_neg hb1]
  rw [show sg++(ds a.natAbs++47::ds b)=.cg++ds b by simp]
  generalize ds a.natAbs=da at *
  generalize ds b=db at *
  clear hL1 hL2 ha hb hsl hse h7 hb1
  walk_at "ev"
theorem Fz {a:Int}(h:a.natAbs<10^100):lb [.int a]=some (tx ((if a<0 then [45] else [])++ds a.natAbs)):=by
 by_cases hn:a<0
 ·obtain⟨m,hm⟩:∃m:Nat,a = -((m+1:Nat):Int):=⟨a.natAbs-1,.e⟩
  rw [if_pos hn]
  subst hm
  rw [show (-((m+1:Nat):Int)).natAbs=m+1 by omega] at h ⊢
  show (if (-((m+1:Nat):Int)).natAbs.log2<1920 then some (T.str (Str.ofString (toString (-((m+1:Nat):Int))))) else none)=_
  rw [if_pos,Kh]
  ·rfl
  ·rw [show (-((m+1:Nat):Int)).natAbs=m+1 by omega]
   exact (Nat.log2_lt .e).mpr (zaR h .c)
 ·obtain⟨m,rfl⟩:=Int.eq_ofNat_of_zero_le (show 0≤a by omega)
  rw [if_neg hn]
  exact oq h
theorem Pr {a:Int}{b:Nat}(ha:a.natAbs<10^72)(hb:b<10^72):NY [yK a b]=some (tx (gN a b)):=by
 have h1:=Fz (a:=a) (zaR ha .c)
 have h2:=oq (zaR hb (by decide +kernel:10^72<10^100))
 have hL1:=fR 71 _ ha
 have hL2:=fR 71 _ hb
 have h4:bz (yK a b) (.j 0)=some (.j a):=rfl
 have h5:bz (yK a b) (.j 1)=some (.j b):=rfl
 have h6:eJ (.j b) (.j 1)=some (.an (b=1)):=by
  rw [gQ]
  congr 2
  exact decide_eq_decide.mpr .e
 have hsg:((if a<0 then [45] else []):List Nat).length≤1:=by split<;>simp
 unfold gN
 generalize (if a<0 then [45] else []:List Nat)=sg at *
 have g2:aR (tx (sg++ds a.natAbs)) (tx [47])=some (tx .cg):=Eg .cu
 have g3:aR (tx .cg) (tx (ds b))=some (tx (.cg++ds b)):=Eg (by rw [List.length_append,List.length_append];simp;omega)
 show ((aF (.D (cw (.Q eJ .bh)) (.m lb (.h 0)))
  (bj (ar aR (ar aR (.m lb (.h 0)) (fC (.str "/"))) (.m lb (.a bz 0 1))))) [s (yK a b)]).bind _=_
 rw [ua]
 generalize lb=dF at *
 by_cases hb1:b=1
 ·rw [decide_eq_true hb1] at h6
  rw [if_pos hb1,zax]
  generalize ds a.natAbs=da at *
  generalize ds b=db at *
  clear h2 hL1 hL2 ha hb hsg g2 g3 hb1
  walk_at "ev"
 ·rw [decide_eq_false hb1] at h6
  rw [if_neg hb1]
  rw [show sg++(ds a.natAbs++47::ds b)=.cg++ds b by simp]
  generalize ds a.natAbs=da at *
  generalize ds b=db at *
  clear hL1 hL2 ha hb hsg hb1
  walk_at "ev"
abbrev PL:List T->Option T:=cg 1 1 rE
noncomputable abbrev Nf:List T->Option T:=cg 3 1 (jk PL jc)
theorem GB (a:Int):PL [.int a]=some .bK:=.a
theorem Oq {a:Int}{b:Nat}(ha:a.natAbs<B)(hb:b<B):Nf [yK a b]=some (.bl (decide (1≤b)&&decide (Int.gcd a b=1))):=by
 have h1:=GB a
 have h2:=GB (b:Int)
 have h3:=iI (a:=a) (b:=(b:Int)) ha (by simpa using hb)
 have h4:Og (.j b) (.j 1)=some (.an (1≤b)):=by
  show some (T.bl (decide ((1:Int)≤(b:Int))))=_
  congr 2
  exact decide_eq_decide.mpr .e
 have h5:eJ (.j (.av a)) (.j 1)=some (.an (Int.gcd a b=1)):=by
  rw [gQ]
  congr 2
  exact decide_eq_decide.mpr .e
 have e2:((2:Nat):Int)=2:=rfl
 unfold Nf cg jk
 generalize PL=d1 at *
 generalize jc=d2 at *
 generalize Int.gcd a b=g at *
 by_cases hb1:1≤b
 ·rw [decide_eq_true hb1] at h4 ⊢
  rw [zbn]
  clear ha hb hb1
  walk_at "ev"
 ·rw [decide_eq_false hb1] at h4 ⊢
  rw [Bool.false_and]
  clear ha hb hb1
  walk_at "ev"
open PySem PySem.Spec PyProof.Rows L2 TM Qm Rq
def C:Nat:=2^1000
theorem RW:C*C+C*C<B:=.c
theorem CB:C<B:=.c
theorem ltB {a:Int}(h:a.natAbs<C):a.natAbs<B:=zaR h CB
theorem mulC {a b:Int}(ha:a.natAbs<C)(hb:b.natAbs<C):(a*b).natAbs<C*C:=by
 rw [zaI]
 exact Nat.mul_lt_mul'' ha hb
theorem QB {a b c d:Int}(ha:a.natAbs<C)(hb:b.natAbs<C)(hc:c.natAbs<C)(hd:d.natAbs<C):(a*b+c*d).natAbs<B:=by
 have h1:=mulC ha hb
 have h2:=mulC hc hd
 have h3:=RW
 omega
theorem ir {a g:Int}(h:g∣a)(hg:g≠0):(a.fdiv g).natAbs≤a.natAbs:=by
 obtain⟨x,rfl⟩:=h
 rw [Int.mul_fdiv_cancel_left x hg,zaI]
 exact Nat.le_mul_of_pos_left _ .e
structure Fr (a b:Int):Prop where
 pos:0<b
 cop:jH a b
 ba:a.natAbs<C
 bb:b.natAbs<C
theorem qR {a b:Int}(h:0<b):Bk a b=.tup [.int (a.fdiv (Int.gcd a b)),.int (b.fdiv (Int.gcd a b))]:=by
 unfold Bk sg
 rw [if_neg .e]
def two:List T->Option (Int×Int×Int×Int)
 |[.tup .dC,.tup [.int c,.int d]]=>some (a,b,c,d)
 |_=>none
theorem M3 {ts:List T}{a b c d:Int}(h:two ts=some (a,b,c,d)):ts=[.tup .dC,.tup [.int c,.int d]]:=by
 unfold two at h
 split at h
 ·cases h;rfl
 ·cases h
open Classical in
def Jt (C:Int->Int->Int->Int->Bool)(g:Int->Int->Int->Int->T):List T->Option T:=fun ts=>(two ts).bind fun p=>if Fr p.1 p.2.1/\Fr p.2.2.1 p.2.2.2/\C p.1 p.2.1 p.2.2.1 p.2.2.2=true then some (g p.1 p.2.1 p.2.2.1 p.2.2.2) else none
theorem zQ {C:Int->Int->Int->Int->Bool}{g:Int->Int->Int->Int->T}{ts:List T}{t:T}(h:Jt C g ts=some t):∃a b c d,ts=[.tup .dC,.tup [.int c,.int d]]/\Fr a b/\Fr c d/\C a b c d=true/\t=g a b c d:=by
 obtain⟨⟨a,b,c,d⟩,e,h⟩:=bind_some h
 dsimp only at h
 split at h
 ·next k=>cases h;exact⟨a,b,c,d,M3 e,k.1,k.2.1,k.2.2,rfl⟩
 ·cases h
theorem C5 {C:Int->Int->Int->Int->Bool}{g:Int->Int->Int->Int->T}{a b c d:Int}(h1:Fr a b)(h2:Fr c d)(h3:C a b c d=true):Jt C g [.tup .dC,.tup [.int c,.int d]]=some (g a b c d):=if_pos ⟨h1,h2,h3⟩
abbrev Js:=Jt (fun _ _ _ _=>true) fun a b c d=>Bk (a*d+c*b) (b*d)
abbrev P6:=Jt (fun _ _ _ _=>true) fun a b c d=>Bk (a*c) (b*d)
def cF (q:Rat):T:=.tup [.int q.num,.int (q.den:Int)]
theorem oy {a b:Int}(hb:0<b):Bk a b=cF (Rat.divInt a b):=by
 have hs:b.sign=1:=Int.sign_eq_one_of_pos hb
 have hg:(Int.gcd b a:Int)=.d9:=by rw [Int.gcd_comm]
 rw [qR hb]
 unfold cF
 rw [Rat.num_divInt,Rat.den_divInt,if_neg .e,hs,Int.one_mul,hg,za8 _ .e,za8 _ .e]
 congr 3
 rw [Int.natCast_ediv,zbF .e,hg]
structure Sm (q:Rat):Prop where
 n:q.num.natAbs<C
 d:q.den<C
theorem Sm.fr {q:Rat}(h:Sm q):Fr q.num q.den:=⟨by have:=q.den_nz;omega,by
 have:=q.reduced
 show Int.gcd q.num q.den=1
 exact this,h.n,by have:=h.d;omega⟩
theorem gF (q:Rat):Rat.divInt q.num q.den=q:=Rat.num_divInt_den q
theorem den_pos (q:Rat):(0:Int)<(q.den:Int):=by have:=q.den_nz;omega
theorem add_eq (x y:Rat):Bk (x.num*y.den+y.num*x.den) (x.den*y.den)=cF (x+y):=by
 rw [oy (zbL (den_pos x) (den_pos y))]
 congr 1
 rw [<- Rat.divInt_add_divInt _ _ (zb4 (den_pos x)) (zb4 (den_pos y)),gF,gF]
theorem mul_eq (x y:Rat):Bk (x.num*y.num) (x.den*y.den)=cF (x*y):=by
 rw [oy (zbL (den_pos x) (den_pos y))]
 congr 1
 rw [<- Rat.divInt_mul_divInt,gF,gF]
theorem K3 {x y:Rat}(hx:Sm x)(hy:Sm y):Js [cF x,cF y]=some (cF (x+y)):=by
 have h:=C5 (C:=fun _ _ _ _=>true) (g:=fun a b c d=>Bk (a*d+c*b) (b*d)) hx.fr hy.fr rfl
 rw [add_eq] at h
 exact h
theorem OC {x y:Rat}(hx:Sm x)(hy:Sm y):P6 [cF x,cF y]=some (cF (x*y)):=by
 have h:=C5 (C:=fun _ _ _ _=>true) (g:=fun a b c d=>Bk (a*c) (b*d)) hx.fr hy.fr rfl
 rw [mul_eq] at h
 exact h
abbrev Oh:FG:=bK (.a 0 1)
theorem Ja (x y:T)(u v:.aW)(ρ:aD):Oh (.tup [x,y]) (u::v::ρ)=some (fQ x::fQ y::ρ):=rfl
theorem iF {α:Type}{φ ψ:α->T}{fe:FE}{g:α->T}{ρ:aD}(hr:bL ρ=true):∀(l:List α) (u v:.aW) (acc:List T),(∀x∈l,fe (fQ (φ x)::fQ (ψ x)::ρ)=some (g x,fQ (φ x)::fQ (ψ x)::ρ))->acc.length+l.length≤sizeLine ->
  eD Oh aS fe (l.map fun x=>.tup [φ x,ψ x]) (u::v::ρ) acc=some (acc++l.map g)
 |[],u,v,acc,_,_=>by simp [eD]
 |x::l,u,v,acc,h,hl=>by
  have hl':acc.length+(l.length+1)≤sizeLine:=hl
  rw [zaf,eD,Ja,zaa,show aS (fQ (φ x)::fQ (ψ x)::ρ)=some (true,fQ (φ x)::fQ (ψ x)::ρ) from rfl,zaa,if_pos rfl,h x zad,zaa,if_pos ⟨hr,.e⟩,
   iF hr l _ _ _ (fun z hz=>h z (.I hz)) .cu,List.map_cons,List.append_assoc]
  rfl
theorem uo {α β:Type}(φ:α->T)(ψ:β->T):∀(r:List α) (s:List β),iQ (r.map φ) (s.map ψ)=(List.zip r s).map fun p=>.tup [φ p.1,ψ p.2]
 |[],s=>by simp [iQ]
 |x::r,[]=>by simp [iQ]
 |x::r,y::s=>by simp [iQ,uo φ ψ r s]
theorem B7:∀(n:Nat) (lo:Int),TM.upTo lo n=(List.range n).map fun (i:Nat)=>T.int (lo+i):=by
 intro n lo
 apply List.ext_getElem?
 intro i
 by_cases h:i<n
 ·rw [ue n lo i h,zaT,zbM h];rfl
 ·rw [List.getElem?_eq_none (by rw [jh];omega),List.getElem?_eq_none .j]
theorem AK (n:Nat):TM.upTo 0 n=(List.range n).map fun (i:Nat)=>T.int i:=by
 rw [B7]
 congr 1
 funext i
 congr 1
 omega
theorem dk {no:Nat}{cap:.I}{fi:FA}{fg:FG}{ft:FT}{fe:FE}{τ:aD}{ts us:List T}(h1:fi τ=some (ts,τ))(h2:frzAll cap τ=τ)(h3:bL (cW no cap τ)=true)(h4:eD fg ft fe ts (cW no cap τ) []=some us):bF no cap fi fg ft fe τ=some (.lst us,τ):=by
 unfold bF
 rw [h1,zaa]
 dsimp only
 rw [h2,if_pos h3,h4]
 rfl
theorem cK {fg:FG}{fb:FS}{t:T}{ts:List T}{τ τ1 τ2:aD}(h1:fg t τ=some τ1)(h2:fb τ1=some (.nx τ2)):cQ fg fb (t::ts) τ=cQ fg fb ts τ2:=by
 rw [cQ,h1,zaa,h2]
 rfl
theorem Ao {f:FE}{τ:aD}{n:Int}(h:f τ=some (.int n,τ))(h0:0≤n)(h1:n≤1000):dy (.ay f) τ=some (TM.upTo 0 n.toNat,τ):=by
 unfold dy ag au
 rw [h]
 show (if _ then _ else _)=_
 rw [if_pos .e]
theorem mH {f:FE}{τ:aD}{n:Nat}(h:f τ=some (.int n,τ))(h1:n≤1000):dy (.ay f) τ=some ((List.range n).map fun (i:Nat)=>T.int i,τ):=by
 have e:=Ao h .e .e
 rw [zaM,AK] at e
 exact e
theorem aA {g:.R}{f:FA}{ρ:aD}{t:T}(ts:List T)(h1:f ρ=some (ts,ρ))(h2:g ts=some t):ao g f ρ=some (t,ρ):=by
 unfold ao
 rw [h1,zaa]
 dsimp only
 rw [h2]
 rfl
theorem aO {t u:FS}{τ τ':aD}(h:t τ=some (.nx τ')):aF t u τ=u τ':=by
 unfold aF
 rw [h]
 rfl
theorem bJ {f:FE}{τ:aD}{t:T}(h:.fz):ag f au τ=some ([t],τ):=by
 unfold ag
 rw [h]
 rfl
theorem cu {f g:FE}{τ:aD}{t u:T}(h:.fz)(h':g τ=some (u,τ)):ag f (.ay g) τ=some ([t,u],τ):=by
 unfold ag
 rw [h,zaa]
 dsimp only
 rw [h']
 rfl
theorem iH {fi:FA}{fg:FG}{fb:FS}{τ:aD}{ts:List T}{r:R}(h1:fi τ=some (ts,τ))(h2:cQ fg fb ts τ=some r):fz fi fg fb τ=some r:=by
 unfold fz
 rw [h1,zaa]
 exact h2
theorem bR {f:FE}{τ τ':aD}{t:T}(h:f τ=some (t,τ')):bj f τ=some (.rt t):=by
 unfold bj
 rw [h]
 rfl
theorem A0 {f g i:FE}{τ:aD}{t u v:T}(h:.fz)(h':g τ=some (u,τ))(h'':i τ=some (v,τ)):ag f (.e g i) τ=some ([t,u,v],τ):=by
 have e:=cu h' h''
 generalize hg:ag g (.ay i)=G at *
 unfold ag
 rw [h,zaa]
 dsimp only
 rw [e]
 rfl
theorem bV {i:Nat}{f:FE}{τ τ1 τ2:aD}{t:T}(h:f τ=some (t,τ1))(h2:bA i (fC t) τ1=some (.nx τ2)):bA i f τ=some (.nx τ2):=by
 unfold bA at *
 rw [h]
 exact h2
theorem ck {m n:Nat}{fb:FS}{ts:List T}{t:T}(hl:ts.length=n)(h:fb .bN=some (.rt t)):cg m n fb ts=some t:=by
 unfold cg
 rw [if_pos hl,h]
 rfl
theorem Ke (ts:List T)(t:T)(h:Js ts=some t):cg 5 2 (A1 jc) ts=some t:=by
 obtain⟨a,b,c,d,rfl,h1,h2,_,rfl⟩:=zQ h
 clear h
 obtain⟨pb,cb,ba,bb⟩:=h1
 obtain⟨pd,cd,bc,bd⟩:=h2
 obtain⟨q1,q2,q3,q4⟩:=Mu pb pd cb cd _ _ _ rfl rfl rfl
 have v1:((Int.gcd b d:Nat):Int)∣b:=zbD b d
 have v2:((Int.gcd b d:Nat):Int)∣d:=zbm b d
 have n1:=ir v1 q3
 have n2:=ir v2 q3
 have g1:Int.gcd b d<B:=zq (ltB bd) .e
 have g1':((Int.gcd b d:Nat):Int).natAbs<B:=.e
 generalize hs:((Int.gcd b d:Nat):Int)=s at *
 have tb:(a*d.fdiv s+c*b.fdiv s).natAbs<B:=QB ba .e bc .e
 have g2:Int.gcd (a*d.fdiv s+c*b.fdiv s) s<B:=zq g1' q3
 have v3:(.cw:Int)∣d:=Int.dvd_trans (zbm _ _) v2
 have n3:=ir v3 q4
 have k1:=iI (ltB bb) (ltB bd)
 have k2:=iI tb g1'
 rw [hs] at k1
 have e:Bk (a*d+c*b) (b*d)=.tup [.int ((a*d.fdiv s+c*b.fdiv s).fdiv .cw),.int (b.fdiv s*d.fdiv .cw)]:=by
  rw [qR (zbL pb pd),q1,q2]
 have g2':(.cw:Int).natAbs<B:=.e
 generalize hl:(.cw:Int)=l at *
 have w1:=ltB ba
 have w2:=ltB bc
 have cb':=CB
 have w3:(d.fdiv s).natAbs<B:=.e
 have w4:(b.fdiv s).natAbs<B:=.e
 have w5:(d.fdiv l).natAbs<B:=.e
 clear q1 q2 v1 v2 n1 n2 n3 v3 cb cd ba bb bc bd pb pd hs hl g1 g2 cb'
 unfold cg A1
 walk_at "ev"
theorem HK (ts:List T)(t:T)(h:P6 ts=some t):cg 4 2 (wC jc) ts=some t:=by
 obtain⟨a,b,c,d,rfl,h1,h2,_,rfl⟩:=zQ h
 clear h
 obtain⟨pb,cb,ba,bb⟩:=h1
 obtain⟨pd,cd,bc,bd⟩:=h2
 obtain⟨q1,q2,q3,q4⟩:=Km pb pd cb cd _ _ rfl rfl
 have n1:=ir (zbD a d) q3
 have n2:=ir (zbm a d) q3
 have n3:=ir (zbD c b) q4
 have n4:=ir (zbm c b) q4
 have g1:Int.gcd a d<B:=zq (ltB bd) .e
 have g2:Int.gcd c b<B:=zq (ltB bb) .e
 have k1:=iI (ltB ba) (ltB bd)
 have k2:=iI (ltB bc) (ltB bb)
 have e:Bk (a*c) (b*d)=.tup [.int (a.fdiv (Int.gcd a d:Nat)*c.fdiv (.av c)),.int (b.fdiv (.av c)*d.fdiv (Int.gcd a d:Nat))]:=by
  rw [qR (zbL pb pd),q1,q2]
 have g1':((Int.gcd a d:Nat):Int).natAbs<B:=.e
 have g2':((.av c):Int).natAbs<B:=.e
 generalize ((Int.gcd a d:Nat):Int)=l at *
 generalize ((.av c):Int)=r at *
 have cb':=CB
 have w1:(a.fdiv l).natAbs<B:=.e
 have w2:(d.fdiv l).natAbs<B:=.e
 have w3:(c.fdiv r).natAbs<B:=.e
 have w4:(b.fdiv r).natAbs<B:=.e
 clear q1 q2 n1 n2 n3 n4 cb cd ba bb bc bd pb pd g1 g2 cb'
 unfold cg wC
 walk_at "ev"
theorem uf {i:Nat}{τ:aD}{t:T}(h:τ[i]? = some (fQ t)):ae i τ=some (t,τ):=by unfold ae;rw [h]
theorem pZ {i:Nat}{f:FE}{τ:aD}{ts:List T}{t:T}(h:τ[i]? = some (.v ts))(hf:.fz)(hl:ts.length<sizeLine):fS i f τ=some (.nx (τ.set i (.v (ts++[t])))):=by
 unfold fS
 rw [h]
 dsimp only
 rw [hf,zaa]
 dsimp only
 rw [h]
 dsimp only
 rw [if_pos hl]
theorem Ll {f:FE}{g:FA}{τ τ1 τ2:aD}{t:T}{ts:List T}(h1:f τ=some (t,τ1))(h2:g τ1=some (ts,τ2)):ag f g τ=some (t::ts,τ2):=by
 unfold ag
 rw [h1,zaa,h2]
 rfl
theorem QU {f g:FE}{τ:aD}{a b:Nat}(h1:f τ=some (br a,τ))(h2:g τ=some (br b,τ)):cw (ar Gm f g) τ=some (decide (a<b),τ):=by
 unfold cw ar
 rw [h1,zaa]
 dsimp only
 rw [h2,zaa]
 show some (decide ((a:Int)<(b:Int)),τ)=_
 congr 2
 simp only [Int.ofNat_lt]
theorem rZ {N d:Int}(hd:¬ d=0)(bd:d.natAbs<B):eO (.j N) (.j d)=some (.j (N.fdiv d)):=if_pos ⟨hd,bd⟩
theorem jP {a b:Int}(h1:a.natAbs<B)(h2:b.natAbs<B):cG (.j a) (.j b)=some (.j (a*b)):=if_pos ⟨h1,h2⟩
theorem lQ {N d:Int}(hd:¬ d=0):dM (.j N) (.j d)=some (.j (N.fmod d)):=if_pos hd
theorem cH {c:FT}{s:FS}{τ τ':aD}(h:c τ=some (false,τ')):bZ c s bH τ=some (.nx τ'):=by
 unfold bZ
 rw [h]
 rfl
theorem sM {C:Addr}{d:.fa}{g:FA}{τ τ':aD}{ts:List T}{r:rh}(h1:g τ=some (ts,τ'))(h2:d ts=some r):hX C d g τ=some (.obj C r.1 r.2,τ'):=by
 unfold hX
 rw [h1,zaa]
 dsimp only
 rw [h2]
 rfl
theorem GR {alts:List .aN}{m:Str}{fo:FE}{g:FA}{τ τ1 τ2:aD}{C:Addr}{ns:.Y}{ts qs:List T}{d:.R}{t:T}(h:fo τ=some (.obj C ns ts,τ1))(hm:¬ m∈ns)(hf:ou C alts=some d)(hg:g τ1=some (qs,τ2))(hd:d (.obj C ns ts::qs)=some t):dP alts m fo g τ=some (t,τ2):=by
 unfold dP
 rw [h,zaa]
 dsimp only
 rw [if_neg hm,hf,zaa,hg,zaa]
 dsimp only
 rw [hd]
 rfl
theorem DO {f g i l:FE}{τ:aD}{t u v x:T}(h1:.fz)(h2:g τ=some (u,τ))(h3:i τ=some (v,τ))(h4:l τ=some (x,τ)):ag f (ag g (.e i l)) τ=some ([t,u,v,x],τ):=Ll h1 (A0 h2 h3 h4)
theorem lO {f:FA}{τ τ':aD}{ts:List T}(h:f τ=some (ts,τ'))(hl:ts.length≤1000):eR f τ=some (.lst ts,τ'):=by
 unfold eR
 rw [h,zaa]
 exact if_pos (aW hl)
theorem jV {fa fb:FE}{τ τ':aD}(h:fa τ=some (.bl true,τ')):fy fa fb τ=fb τ':=by
 unfold fy
 rw [h]
 rfl
theorem C3 (ts:List T):cn [.lst ts]=some (.j (ts.length:Nat)):=rfl
theorem Lv (a b:Nat):eJ (br a) (br b)=some (.an (a=b)):=by
 rw [gQ]
 exact congrArg (fun z=>some (T.bl z)) (decide_eq_decide.mpr .e)
theorem la {c1 c2:FT}{τ τ' τ'':aD}(h1:c1 τ=some (false,τ'))(h2:c2 τ'=some (false,τ'')):uq c1 c2 τ=some (false,τ''):=by
 unfold uq
 rw [h1,zaa]
 exact (if_neg zaK).trans h2
theorem Cn {a b c:Int}{fb fc:FE}{τ:aD}(hb:fb τ=some (.int b,τ))(hc:fc τ=some (.int c,τ))(h1:a≤b)(h2:b≤c):gZ uz uz (fC (.j a)) fb fc τ=some (.bl true,τ):=by
 unfold gZ
 rw [show fC (.j a) τ=some (.int a,τ) from rfl,zaa,hb,zaa]
 rw [show uz (.j a) (.j b)=some (.an (a≤b)) from rfl,decide_eq_true h1,zaa]
 dsimp only
 rw [hc,zaa,show uz (.j b) .ai=some (.an (b≤c)) from rfl,decide_eq_true h2]
 rfl
theorem KG {m n:Nat}{fb:FS}{ts:List T}{τ:aD}(hl:ts.length=n)(h:fb .bN=some (.nx τ)):cg m n fb ts=some .non:=by
 unfold cg
 rw [if_pos hl,h]
 rfl
theorem fT {f:Str}{fe:FE}{fr:Addr->FI}{x:Addr}{τ:aD}{ns:.Y}{us:List T}{t:T}(h:fe τ=some (t,τ))(ha:bL τ=true)(hn:¬ f∈ns/\ns.length<999)(h0:τ[0]? = some (fQ (.ptr x))):lg f fe fr x τ ns us=fr x τ (ns++[f]) (us++[t]):=by
 unfold lg
 rw [h,zaa]
 dsimp only
 rw [if_pos ⟨ha,hn⟩,h0]
 exact if_pos rfl
def nh (l:.I):Prop:=∀c∈l,c<128
theorem Rj {l:.I}(h:nh l):PyData.strOk (S l)=true:=by
 unfold PyData.strOk
 simp [S]
 exact fun x hx=>zaR (h x hx) .f
theorem tR {l:.I}(h:nh l):SeqAt.shaped (.str (S l))=true:=by simp [SeqAt.shaped,PyData.canLay0,PyData.depth,Rj h]
theorem Le {a b:.I}:(S a=S b) ↔ a=b:=⟨Ci,fun h=>by rw [h]⟩
theorem Gf {a b:.I}(ha:nh a)(hb:nh b):eJ (tx a) (tx b)=some (.an (a=b)):=by
 show zo false (.str (S a)) (.str (S b))=_
 have e:(S a == S b)=decide (a=b):=by rw [Bool.eq_iff_iff,beq_iff_eq,decide_eq_true_eq,Le]
 simp [zo,wm,PyData.eqv,tR ha,tR hb,e]
theorem Gn {a b:.I}(ha:nh a)(hb:nh b):qg (tx a) (tx b)=some (.bl (!decide (a=b))):=by
 show zo true (.str (S a)) (.str (S b))=_
 have e:(S a == S b)=decide (a=b):=by rw [Bool.eq_iff_iff,beq_iff_eq,decide_eq_true_eq,Le]
 simp [zo,wm,PyData.eqv,tR ha,tR hb,e]
abbrev yH:List T->Option T:=cg 2 2 iR
theorem mD (ns:.dz)(k:Nat):yH [.scr (ns.map T.int),br k]=some (.j (ns.getD k 0)):=by
 have hl:ao cn (bM 0) .dJ=some (.int (ns.length:Nat),.dJ):=aA [.scr (ns.map T.int)] .bf (by
  show some (T.int ((ns.map T.int).length:Nat))=_
  rw [zah])
 have ht:=QU (f:=ae 1) (g:=ao cn (bM 0)) (τ:=.dJ) (a:=k) (b:=ns.length) rfl hl
 refine ck rfl ?_
 show iR .dJ=_
 unfold iR
 by_cases h:k<ns.length
 ·have e:=Jm (ns:=ns) (k:=(k:Nat)) .e .e
  rw [zaM] at e
  unfold aF bZ
  rw [ht,zaa]
  dsimp only
  rw [if_pos (decide_eq_true h),bR (aH (g:=bz) (f1:=ae 0) (f2:=ae 1) rfl rfl e)]
  rfl
 ·rw [aO (cH (by rw [ht,decide_eq_false h]))]
  rw [zaD,List.getElem?_eq_none .e]
  rfl
noncomputable abbrev nt (l:.I):T:=.lst (l.map fun d=>br d)
def Below:List Nat->List Nat->Prop
 |[],[]=>True
 |d::ds,b::bs=>d<b/\Below ds bs
 |_,_=>False
def Ir (bs:.I):Prop:=∀b∈bs,0<b/\b<B
theorem Below.len:∀{ds bs:.I},Below ds bs->ds.length=bs.length
 |[],[],_=>rfl
 |_::ds,_::bs,h=>by rw [zaj,zaj,Below.len h.2]
 |[],_::_,h=>h.elim
 |_::_,[],h=>h.elim
theorem lI (c:Int){b:Nat}(h:0<b):∃d:Nat,c.fmod (b:Int)=(d:Nat)/\d<b:=by
 have hb:(0:Int)<(b:Int):=.e
 have h0:=Int.fmod_nonneg_of_pos c hb
 have h1:=Int.fmod_lt_of_pos c hb
 exact⟨(c.fmod (b:Int)).toNat,.e,.e⟩
abbrev PH:List T->Option T:=cg 5 2 gO
def PU:FS:=aF (fS 2 (.c dM 3 4)) (bA 3 (.c eO 3 4))
theorem Cr (c:Int)(L:T):∀(bs:.I) (l:Int) (ts:List T) (u:.aW),Ir bs->ts.length+bs.length≤1000->∃(ds:.I) (l':Int) (u':.aW),cQ (ai 4) PU (bs.map fun b=>br b) [s .ai,s L,some (.own ts),s (.j l),u]
  = some (.nx [s .ai,s L,some (.own (ts++ds.map fun d=>br d)),s (.j l'),u'])/\Below ds bs
 |[],l,ts,u,_,_=>⟨[],l,u,by simp [cQ],trivial⟩
 |b::bs,l,ts,u,hb,hl=>by
  have h0:=hb b zad
  obtain⟨d,e1,e2⟩:=lI l h0.1
  obtain⟨ds,l',u',h1,h2⟩:=Cr c L bs (l.fdiv b) (ts++[br d]) (s (br b)) (fun x hx=>hb x (.I hx)) (by rw [List.length_append];simp at hl ⊢;omega)
  refine⟨d::ds,l',u',?_,e2,h2⟩
  have hz:ts.length<sizeLine:=bT (by simp at hl;omega)
  have m:dM (.j l) (br b)=some (br d):=by rw [lQ .e,e1]
  have q:eO (.j l) (br b)=some (.j (l.fdiv b)):=rZ .e (by simpa using h0.2)
  have hB:PU [s .ai,s L,some (.own ts),s (.j l),s (br b)]=some (.nx [s .ai,s L,some (.own (ts++[br d])),s (.j (l.fdiv b)),s (br b)]):=by
   unfold PU
   rw [aO (pZ (ts:=ts) (t:=br d) rfl (.s m) hz)]
   exact bV (.s q) rfl
  rw [zaf,cK rfl hB,h1]
  simp
theorem D7 (c:Int){bs:.I}(hb:Ir bs)(hl:bs.length≤1000):∃ds:List Nat,PH [.int c,nt bs]=some (nt ds)/\Below ds bs:=by
 obtain⟨ds,l',u',h1,h2⟩:=Cr c (nt bs) bs c [] none hb (by simpa using hl)
 refine⟨ds,ck rfl ?_,h2⟩
 show gO [s .ai,s (nt bs),none,none,none]=_
 have e:gO=aF (bX 2 au) (aF (bA 3 (ae 0)) (aF (fz (aZ (ae 1)) (ai 4) PU) (bj (ae 2)))):=rfl
 rw [e,aO (show bX 2 au [s .ai,s (nt bs),none,none,none]=some (.nx [s .ai,s (nt bs),some (.own []),none,none]) from rfl),aO (show bA 3 (ae 0) [s .ai,s (nt bs),some (.own []),none,none]=some (.nx [s .ai,s (nt bs),some (.own []),s .ai,none]) from rfl),aO (iH rfl h1)]
 rfl
abbrev NU:List T->Option T:=cg 5 2 ig
def P8:FS:=(aF (bA 3 (ar dM .c4 (az 2147483647)))
  (fS 2 (ar eO (ar dM (ar cG (ae 3) (ae 3)) (az 2147483587)) (az 3))))
theorem C6 (c n:Int):∀(ks:.I) (l:Int) (ts:List T) (u:.aW),(∀k∈ks,k≤1000)->(0≤l/\l<2147483647)->ts.length+ks.length≤1000->∃(ms:.dz) (l':Int) (u':.aW),cQ (ai 4) P8 (ks.map fun k=>br k) [s .ai,s (.j n),some (.own ts),s (.j l),u]
  = some (.nx [s .ai,s (.j n),some (.own (ts++ms.map T.int)),s (.j l'),u'])/\ms.length=ks.length
 |[],l,ts,u,_,_,_=>⟨[],l,u,by simp [cQ],rfl⟩
 |k::ks,l,ts,u,hk,h0,hl=>by
  have hk0:=hk k zad
  have bB:=mO
  have r1:=zk (l*48271+7919*(k:Int)+1) (b:=2147483647) .f
  have e1:ar dM .c4 (az 2147483647) .ey=some (.int ((l*48271+7919*(k:Int)+1).fmod 2147483647),.ey):=
   aH (aH (aH (.s (jP .e .e)) (.s (jP .e .e)) eE) rfl eE) rfl (lQ .f)
  generalize (l*48271+7919*(k:Int)+1).fmod 2147483647=l1 at *
  obtain⟨ms,l',u',h1,h2⟩:=C6 c n ks l1 (ts++[.int (((l1*l1).fmod 2147483587).fdiv 3)]) .aM (fun x hx=>hk x (.I hx)) r1 (by rw [List.length_append];simp at hl ⊢;omega)
  refine⟨((l1*l1).fmod 2147483587).fdiv 3::ms,l',u',?_,by simp [h2]⟩
  have hz:ts.length<sizeLine:=bT (by simp at hl;omega)
  have hB:P8 .ey=some (.nx [s .ai,s (.j n),some (.own (ts++[.int (((l1*l1).fmod 2147483587).fdiv 3)])),s (.j l1),s (br k)]):=by
   unfold P8
   rw [aO (bV e1 rfl)]
   exact pZ (ts:=ts) rfl (aH (aH (.s (jP .e .e)) rfl (lQ .f)) rfl (rZ .f .e)) hz
  rw [zaf,cK rfl hB,h1]
  simp
theorem FF (c:Int)(n:Nat)(hn:n≤900):∃ms:List Int,NU [.int c,br n]=some (.lst (ms.map T.int))/\ms.length=n:=by
 have r0:=zk c (b:=2147483629) .f
 obtain⟨ms,l',u',h1,h2⟩:=C6 c (n:Nat) (List.range n) (c.fmod 2147483629+17) [] none (fun k hk=>by have:=List.mem_range.mp hk;omega) .e .j
 refine⟨ms,ck rfl ?_,by rw [h2,za3]⟩
 show ig [s .ai,s (br n),none,none,none]=_
 have e:ig=aF (bX 2 au) (aF (bA 3 (ar aR (.a dM 0 2147483629) (az 17))) (aF (fz (dy (bM 1)) (ai 4) P8) (bj (ae 2)))):=rfl
 rw [e,aO (show bX 2 au [s .ai,s (br n),none,none,none]=some (.nx [s .ai,s (br n),some (.own []),none,none]) from rfl),aO (bV (τ1:=[s .ai,s (br n),some (.own []),none,none]) (τ2:=[s .ai,s (br n),some (.own []),s (.j (c.fmod 2147483629+17)),none]) (aH (.s (lQ .f)) rfl eE) rfl),aO (iH (mH rfl .e) h1)]
 rfl
noncomputable abbrev rW:List T->Option T:=cg 2 2 (ie PH NU)
theorem wy (f:Int->Nat->Nat)(hf:∀m b,0<b->f m b<b):∀(ms:.dz) (bs:.I),ms.length=bs.length->Ir bs->Below ((List.zip ms bs).map fun p=>f p.1 p.2) bs
 |[],[],_,_=>trivial
 |m::ms,b::bs,h,hb=>⟨hf m b (hb b List.mem_cons_self).1,wy f hf ms bs .aC fun x hx=>hb x (.I hx)⟩
 |[],_::_,h,_=>by cases h
 |_::_,[],h,_=>by cases h
theorem jL (c:Int){bs:.I}(hb:Ir bs)(hl:bs.length≤900):∃ds:List Nat,rW [.int c,nt bs]=some (nt ds)/\Below ds bs:=by
 have hlen:cn [nt bs]=some (.j (bs.length:Nat)):=by
  show some (T.int ((bs.map _).length:Nat))=_
  rw [zah]
 have h2:ar eJ (.a dM 0 2) (az 1) .dm=some (.bl (decide (c.fmod 2=1)),.dm):=aH (.s (lQ .f)) rfl (gQ _ _)
 have hd:ar eO (ae 0) (az 2) .dm=some (.int (c.fdiv 2),.dm):=aH rfl rfl (rZ .f (by have:=mO;omega))
 have hc:∃ds:List Nat,ie PH NU .dm=some (.rt (nt ds))/\Below ds bs:=by
  unfold ie
  by_cases h:c.fmod 2=1
  ·obtain⟨ds,e1,e2⟩:=D7 (c.fdiv 2) hb .e
   refine⟨ds,?_,e2⟩
   unfold aF bZ
   rw [show cw (.Q eJ (.a dM 0 2)) .dm=some (decide (c.fmod 2=1),.dm) by unfold cw;rw [h2];rfl,Option.bind_some]
   dsimp only
   rw [if_pos (decide_eq_true h),bR (aA _ (cu hd rfl) e1)]
   rfl
  ·obtain⟨ms,e1,e2⟩:=FF (c.fdiv 2) bs.length hl
   refine⟨(List.zip ms bs).map fun p=>(p.1.fmod (p.2:Int)).toNat,?_,wy (fun m b=>(m.fmod (b:Int)).toNat) (fun m b hb=>by
    obtain⟨d,q1,q2⟩:=lI m hb
    show (m.fmod (b:Int)).toNat<b
    omega) ms bs e2 hb⟩
   rw [aO (cH (by show cw _ _=_;unfold cw;rw [h2];show some (decide (c.fmod 2=1),_)=_;rw [decide_eq_false h]))]
   refine bR (dk (ts:=(List.zip ms bs).map fun p=>.tup [.int p.1,.int (p.2:Nat)]) ?_ rfl rfl ?_)
   ·have g1:ag (ao NU (.e (.a eO 0 2) (ao cn (bM 1)))) (bM 1) .dm=some ([.lst (ms.map T.int),nt bs],.dm):=cu (aA _ (cu hd (.ac hlen)) e1) rfl
    unfold lH
    rw [g1,zaa]
    show some (iQ (ms.map T.int) (bs.map fun d=>br d),_)=_
    rw [uo]
   ·rw [show (List.map (fun d=>br d) (List.map (fun p:Int×Nat=>(p.1.fmod (p.2:Int)).toNat) (List.zip ms bs)))=[]++(List.zip ms bs).map (fun p=>T.int (((p.1.fmod (p.2:Int)).toNat:Nat):Int)) by simp]
    refine iF (φ:=fun p:Int×Nat=>T.int p.1) (ψ:=fun p=>T.int (p.2:Nat)) rfl _ _ _ _ (fun p hp=>?_) (by rw [List.length_nil,Nat.zero_add,List.length_zip];exact aW .e)
    have hp2:=hb p.2 (zbH hp).2
    obtain⟨d,q1,q2⟩:=lI p.1 hp2.1
    refine aH rfl rfl ?_
    rw [lQ .e,q1]
    rfl
 obtain⟨ds,e1,e2⟩:=hc
 exact⟨ds,ck rfl e1,e2⟩
theorem oY:∀ls:List .ce,strsOf .ek=some (ls.map S)
 |[]=>rfl
 |l::ls=>by
  show (strsOf .ek).bind _=_
  rw [oY ls]
  rfl
theorem A7 (l:.I):cs (S l)=l:=eh l
theorem GP (ls:.U):(ls.map S).map cs=ls:=by rw [zaz,show cs ∘ S=id from funext A7,List.map_id]
theorem BG (c:Nat)(ls:.U):Txt.join (S [c]) (ls.map S)=S (jl c ls):=by
 refine A8 ?_
 rw [show S [c]=one c from rfl,AJ,qN,GP,A7]
theorem vR:∀ls:List .ce,cs ((S []).join (ls.map S))=ls.flatten
 |[]=>rfl
 |[p]=>by
  rw [zaf,zb0,Str.join.eq_2,A7,zaN,List.flatten_nil,zax]
 |p::q::r=>by
  have ih:=vR (q::r)
  rw [zaf] at ih
  rw [zaf,zaf,Str.join.eq_3 _ _ _ (fun h=>by cases h),wL,wL,ih,A7,A7]
  simp
theorem LQ (ls:.U):Txt.join (S []) (ls.map S)=S ls.flatten:=by
 refine A8 ?_
 show cs (Builtin.Str.glued (S []) (ls.map S))=_
 rw [StrLaws.glued_eq_join,vR,A7]
def nY (ls:.U):Nat:=(ls.map (·.length)).sum
theorem BZ (ls:.U):((ls.map S).map (·.length)).sum=nY ls:=by
 unfold nY
 rw [zaz]
 congr 1
theorem oZ {m:Nat}:∀{ls:.U},(∀l∈ls,l.length≤m)->nY ls≤ls.length*m
 |[],_=>za6 _
 |l::ls,h=>by
  have:=oZ (ls:=ls) fun x hx=>h x (zae _ hx)
  have h1:=h l zad
  unfold nY at this ⊢
  rw [zaf,List.sum_cons,zaj,Nat.succ_mul]
  omega
theorem GF (c:Nat){ls:.U}(h:nY ls+ls.length≤16777216):cX (tx [c]) (.lst .ek)=some (tx (jl c ls)):=by
 show (strsOf .ek).bind _=_
 rw [oY,Option.bind_some,BZ,List.length_map,cj,if_pos .aC,BG]
theorem LP (c:Nat){ls:.U}(h:nY ls+ls.length≤16777216):cX (tx [c]) (.tup .ek)=some (tx (jl c ls)):=by
 show (strsOf .ek).bind _=_
 rw [oY,Option.bind_some,BZ,List.length_map,cj,if_pos .aC,BG]
theorem CY {ls:.U}(h:nY ls≤16777216):cX .dW (.lst .ek)=some (tx ls.flatten):=by
 show (strsOf .ek).bind _=_
 rw [oY,Option.bind_some,BZ,List.length_map,yx,cj,if_pos .aC,LQ]
def pY (l:.I):Prop:=l≠[]/\l.length≤8/\∀c∈l,97≤c/\c≤122
theorem pY.asc {l:.I}(h:pY l):nh l:=fun c hc=>by have:=h.2.2 c hc;omega
theorem Jp:(Str.ofString "abcdefghijklmnopqrstuvwxyz").length=26:=.c
theorem OB:Str.ofString "abcdefghijklmnopqrstuvwxyz" = S ((List.range 26).map (97+·)):=.c
theorem LX {i:Nat}(h:i<26):bz .y (br i)=some (tx [97+i]):=by
 show (if (Str.ofString "abcdefghijklmnopqrstuvwxyz").length≤sizeLine then _ else none)=_
 rw [if_pos (by rw [Jp];exact aW .f),OB,eh,qK (v:=97+i) (by rw [zaT,zbM h];rfl)]
 rfl
theorem zi (f:Nat->Nat):∀l:List Nat,(l.map fun j=>[f j]).flatten=l.map f
 |[]=>rfl
 |a::l=>by rw [zaf,zaN,zi f l];rfl
theorem Below.get:∀{ds bs:.I} {i:Nat},Below ds bs->i<bs.length->ds.getD i 0<bs.getD i 0
 |[],[],_,_,h=>by cases h
 |d::ds,b::bs,0,h,_=>h.1
 |d::ds,b::bs,i+1,h,hi=>by
  have:=Below.get (i:=i) h.2 .dr
  simpa using this
 |[],_::_,_,h,_=>h.elim
 |_::_,[],_,h,_=>h.elim
theorem C9 {l:.I}{i:Nat}(h:i<l.length):bz (nt l) (br i)=some (.j (l.getD i 0:Nat)):=by
 show yG (l.map fun d=>br d) (i:Int)=_
 rw [qK (v:=.int (l.getD i 0:Nat)) (by rw [zaT,zav h,zaD,zav h];rfl)]
def sR (tail:.I)(sz a k:Nat):List Nat:=(List.range sz).map fun j=>97+(tail.getD j 0+k*(if j=a then 1 else 0))%26
theorem GY {tail:.I}{sz a k:Nat}(h0:0<sz)(h8:sz≤8):pY (sR tail sz a k):=by
 unfold sR
 refine⟨fun e=>?_,by simpa using h8,fun c hc=>?_⟩
 ·have:=congrArg List.length e
  simp at this
  omega
 ·obtain⟨j,_,rfl⟩:=zao.mp hc
  have:=zaY (tail.getD j 0+k*(if j=a then 1 else 0)) (show 0<26 by decide)
  omega
theorem GX {tail:.I}{sz a i j:Nat}(ha:a<sz)(hi:i<26)(hj:j<26)(h:sR tail sz a i=sR tail sz a j):i=j:=by
 have e:=congrArg (fun l:List Nat=>l[a]?) h
 unfold sR at e
 simp [List.getElem?_range ha] at e
 omega
def P9:FS:=(aF (fB 8 1 [2,5,7,4] (dy (bM 3)) (ai 0) aS .bv)
  (fS 6 (ar cX (fC .dW) (ae 8))))
noncomputable abbrev GW (c n:Int)(sz a:Nat)(tail:.I)(ts:List T)(x7 x8:.aW):aD:=[s .ai,s (.j n),s .y,s (br sz),s (br a),s (nt tail),some (.own ts),x7,x8]
theorem Jx (c n:Int){sz a k:Nat}{tail:.I}(h8:sz≤8)(ht:tail.length=sz)(hk:k≤100)(ts:List T)(x8:.aW)(hl:ts.length<1000):
  ∃us,P9 (GW c n sz a tail ts .aM x8)=some (.nx (GW c n sz a tail (ts++[tx (sR tail sz a k)]) .aM (fQ (.lst us)))):=by
 have hz:ts.length<sizeLine:=bT .e
 have hc:eD (ai 0) aS .bv ((List.range sz).map fun (j:Nat)=>T.int j) .di []=some ([]++(List.range sz).map fun j=>tx .bu):=by
  refine dQ rfl _ _ _ (fun j hj=>?_) .a9
  have hj:=zaQ.mp hj
  have e1:ar bz (ae 2) (ae 0) .cU=some (.int (tail.getD j 0:Nat),.cU):=aH rfl rfl (C9 .e)
  have e2:ao gg (.ay (.c eJ 0 4)) .cU=some (.int ((if j=a then 1 else 0:Nat):Int),.cU):=by
   refine aA [.bl (decide (j=a))] (bJ (aH rfl rfl (by rw [gQ];congr 2;exact decide_eq_decide.mpr .e))) ?_
   by_cases h:j=a
   ·rw [if_pos h,decide_eq_true h];rfl
   ·rw [if_neg h,decide_eq_false h];rfl
  have hq:(if j=a then 1 else 0:Nat)≤1:=by split<;>omega
  generalize (if j=a then 1 else 0:Nat)=q at *
  have bB:=mO
  refine aH rfl (aH (aH e1 (aH rfl e2 (jP .e .e)) eE) rfl (lQ .f)) ?_
  have e3:((tail.getD j 0:Nat):Int)+(k:Int)*(q:Int)=((tail.getD j 0+k*q:Nat):Int):=.h
  rw [e3,show ((tail.getD j 0+k*q:Nat):Int).fmod 26=(((tail.getD j 0+k*q)%26:Nat):Int) by rw [zaS _ .f];rfl]
  exact LX (zaY _ .f)
 refine⟨(List.range sz).map fun j=>tx .bu,?_⟩
 have hj:cX .dW (.lst ((List.range sz).map fun j=>tx .bu))=some (tx (sR tail sz a k)):=by
  have:=CY (ls:=(List.range sz).map fun j=>[97+(tail.getD j 0+k*(if j=a then 1 else 0))%26]) (by
   refine Nat.le_trans (oZ (m:=1) fun l hl=>?_) .j
   obtain⟨j,_,rfl⟩:=zao.mp hl
   exact zak _)
  rw [zaz,zi (fun j=>97+(tail.getD j 0+k*(if j=a then 1 else 0))%26)] at this
  exact this
 have hr:dy (bM 3) (GW c n sz a tail ts .aM x8)=some ((List.range sz).map fun (j:Nat)=>T.int j,GW c n sz a tail ts .aM x8):=mH rfl .e
 have h1:fB 8 1 [2,5,7,4] (dy (bM 3)) (ai 0) aS .bv (GW c n sz a tail ts .aM x8)
   = some (.nx (GW c n sz a tail ts .aM (.v ((List.range sz).map fun j=>tx [97+(tail.getD j 0+k*(if j=a then 1 else 0))%26])))):=by
  unfold fB
  rw [hr,zaa]
  show (if bL .di=true then (eD _ _ _ _ .di []).bind _ else none)=_
  rw [if_pos (show bL .di=true from rfl)]
  dsimp only
  rw [hc]
  rfl
 unfold P9
 rw [aO h1]
 generalize (List.range sz).map (fun j=>tx .bu)=us at *
 generalize sR tail sz a k=z at *
 clear hc hr h1
 unfold fS ar fC
 show ((((some (T.lst us,GW c n sz a tail ts .aM (fQ (.lst us))):Option (T×aD)).bind fun q=>(cX .dW q.1).bind fun t=>some (t,q.2))).bind _)=_
 rw [zaa]
 dsimp only
 rw [hj]
 show (if ts.length<sizeLine then _ else none)=_
 rw [if_pos hz]
 rfl
theorem C7 (c n:Int){sz a:Nat}{tail:.I}(h8:sz≤8)(ht:tail.length=sz):∀(ks:.I) (ts:List T) (x7 x8:.aW),(∀k∈ks,k≤100)->ts.length+ks.length≤900->∃y7 y8,cQ (ai 7) P9 (ks.map fun k=>br k) (GW c n sz a tail ts x7 x8)=some (.nx (GW c n sz a tail (ts++ks.map fun k=>tx (sR tail sz a k)) y7 y8))
 |[],ts,x7,x8,_,_=>⟨x7,x8,by simp [cQ]⟩
 |k::ks,ts,x7,x8,hk,hl=>by
  rw [zaj] at hl
  obtain⟨us,h1⟩:=Jx c n h8 ht (hk k zad) ts x8 .e
  obtain⟨y7,y8,h2⟩:=C7 c n h8 ht ks (ts++[tx (sR tail sz a k)]) .aM (fQ (.lst us)) (fun x hx=>hk x (zae _ hx)) .bB
  refine⟨y7,y8,?_⟩
  rw [zaf,cK (τ1:=GW c n sz a tail ts .aM x8) rfl h1,h2]
  simp
theorem CK {ts:List T}{k:Int}(h1 : -(2^63)≤k)(h2:k<2^63)(h3:ts.length*k.toNat≤sizeLine):w6 .dX (.j k)=some (.al ts):=if_pos ⟨⟨h1,h2⟩,h3⟩
abbrev KA:List T->Option T:=cg 9 2 (ij rW)
theorem Cm {n b:Nat}(h0:0<b)(hb:b<B):Ir (List.replicate n b):=fun x hx=>by rw [List.eq_of_mem_replicate hx];exact⟨h0,hb⟩
theorem G1 (n b:Nat):(T.lst (List.replicate n [br b]).flatten)=nt (List.replicate n b):=by
 congr 1
 induction n with
 |zero=>rfl
 |succ n ih=>rw [zaF,zaF,zaN,zaf,ih];rfl
theorem FH (c:Int){n:Nat}(hn:n≤26):∃nm:Nat->List Nat,KA [.int c,br n]=some (.lst ((List.range n).map fun k=>tx (nm k)))/\(∀k,pY (nm k))/\∀i j,i<n->j<n->nm i=nm j->i=j:=by
 obtain⟨d8,e8,h8⟩:=lI c (b:=8) .f
 obtain⟨a,ea,ha⟩:=lI (c.fdiv 8) (b:=1+d8) .e
 have bB:=mO
 obtain⟨tail,et,ht⟩:=jL (c.fdiv 64) (bs:=List.replicate (1+d8) 26) (Cm .f .e) .j
 have hl:=ht.len
 rw [zba] at hl
 obtain⟨y7,y8,h2⟩:=C7 c (n:Nat) (sz:=1+d8) (a:=a) (tail:=tail) .e hl (List.range n) [] none none (fun k hk=>by have:=List.mem_range.mp hk;omega) .j
 refine⟨sR tail (1+d8) a,ck rfl ?_,fun k=>GY .e .e,fun i j hi hj e=>GX ha .e .e e⟩
 show ij rW [s .ai,s (br n),none,none,none,none,none,none,none]=_
 have e:ij rW=aF (bA 2 (fC .y)) (aF (bA 3 (ar aR (az 1) (.a dM 0 8))) (aF (bA 4 (ar dM (.a eO 0 8) (ae 3)))
  (aF (bA 5 (ao rW .dZ)) (aF (bX 6 au) (aF (fz (dy (bM 1)) (ai 7) P9) (bj (ae 6))))))):=rfl
 have s3:ar aR (az 1) (.a dM 0 8) .ec=some (.int ((1+d8:Nat):Int),.ec):=aH rfl (.s (lQ .f)) (by rw [show c.fmod 8=(d8:Int) from e8,eE];congr 2)
 have s4:ar dM (.a eO 0 8) (ae 3) .cz=some (br a,.cz):=aH (.s (rZ .f .e)) rfl (by rw [lQ .e,ea])
 have s5:ao rW .dZ .cm=some (nt tail,.cm):=by
  refine aA _ (cu (.s (rZ .f .e)) (aH (lO .bf .f) rfl ?_)) et
  rw [<- G1]
  have g:=CK (ts:=[.int 26]) (k:=((1+d8:Nat):Int)) .e .e (by rw [zaM,zau];exact aW .e)
  rw [zaM] at g
  exact g
 rw [e,aO (show bA 2 (fC .y) [s .ai,s (br n),none,none,none,none,none,none,none]=some (.nx .ec) from rfl),
  aO (bV (τ2:=.cz) s3 rfl),aO (bV (τ2:=.cm) s4 rfl),
  aO (bV (τ2:=[s .ai,s (br n),s .y,s (.j ((1+d8:Nat):Int)),s (br a),s (nt tail),none,none,none]) s5 rfl),aO (show bX 6 au [s .ai,s (br n),s .y,s (.j ((1+d8:Nat):Int)),s (br a),s (nt tail),none,none,none]=some (.nx (GW c (n:Nat) (1+d8) a tail [] none none)) from rfl),aO (iH (mH (n:=n) rfl .e) h2)]
 rfl
inductive Pt where
 |inp (n:.I) | cell (n w:.I) | gain (n:.I) (q:Rat) (w:.I) | sum (n:.I) (ts:.d6) | out (w:.I)
def lu (b:Bool):Int:=if b then 1 else -1
abbrev gq (t:Bool×List Nat):T:=.tup [.int (lu t.1),tx t.2]
def Pt.law:Pt->T
 | .inp n=>.tup [.str "in", tx n]
 | .cell n w=>.tup [.str "cell", tx n,tx w]
 | .gain n q w=>.tup [.str "gain", tx n,cF q,tx w]
 | .sum n ts=>.tup [.str "sum", tx n,.tup (ts.map gq)]
 | .out w=>.tup [.str "out", tx w]
def Pt.nm:Pt->Option .ce
 | .inp n=>some n
 | .cell n _=>some n
 | .gain n _ _=>some n
 | .sum n _=>some n
 | .out _=>none
def Pt.ws:Pt->List .ce
 | .inp _=>[]
 | .cell _ w=>[w]
 | .gain _ _ w=>[w]
 | .sum _ ts=>ts.map (·.2)
 | .out w=>[w]
def Pt.inner:Pt->Bool
 | .gain _ _ _=>true
 | .sum _ _=>true
 |_=>false
def Px (q:Rat):Prop:=q.num.natAbs≤99/\q.den≤12
def Pt.Ok:Pt->Prop
 | .inp n=>pY n
 | .cell n w=>pY n/\pY w
 | .gain n q w=>pY n/\pY w/\Px q
 | .sum n ts=>pY n/\(1≤ts.length/\ts.length≤4)/\∀t∈ts,pY t.2
 | .out w=>pY w
theorem Be {a b:Int}(hb:0<b):(Rat.divInt a b).num.natAbs≤a.natAbs/\(Rat.divInt a b).den≤b.natAbs:=by
 have e:=oy (a:=a) hb
 rw [qR hb] at e
 unfold cF at e
 injection e with e
 injection e with e1 e2
 injection e2 with e2 _
 injection e1 with e1
 injection e2 with e2
 have hg:((.av a):Int)≠0:=Gq .e
 have h1:=ir (a:=a) (g:=(.av a)) (Int.gcd_dvd_left ..) hg
 have h2:=ir (a:=b) (g:=(.av a)) (Int.gcd_dvd_right ..) hg
 rw [e1] at h1
 rw [e2] at h2
 exact⟨h1,.e⟩
theorem LY {a b:Int}(ha:a.natAbs<B)(hb:b.natAbs<B)(h0:0<b):iJ .dC=some (cF (Rat.divInt a b)):=by rw [zP ha hb h0,oy h0]
theorem L0 {a b:Nat}(hb:0<b):dM (br a) (br b)=some (.j ((a%b:Nat):Int)):=by
 rw [lQ .e,zaS _ .e]
 rfl
theorem QF {a b:Nat}(hb:0<b)(hB:b<B):eO (br a) (br b)=some (.j ((a/b:Nat):Int)):=by
 rw [rZ .e .e,za8 _ .e]
 rfl
theorem jI {a b:Nat}:aR (br a) (br b)=some (.j ((a+b:Nat):Int)):=by
 rw [eE]
 rfl
abbrev bY (ls:.U):T:=.lst .ek
theorem yz {ls:.U}{i:Nat}(h:i<ls.length):bz (bY ls) (br i)=some (tx (ls.getD i [])):=by
 show yG .ek (i:Int)=_
 rw [qK (v:=tx (ls.getD i [])) (by rw [zaT,zav h,zaD,zav h];rfl)]
theorem kT {ls:.U}:cn [bY ls]=some (.j (ls.length:Nat)):=by
 show some (T.int ((ls.map tx).length:Nat))=_
 rw [zah]
theorem Lp {ts:List T}{a b:Nat}(h:a+b≤ts.length):PY .dX (some (a:Nat)) (some ((a+b:Nat):Nat))=some (.lst ((ts.drop a).take b)):=by
 show some (T.lst (rQ ts (some (a:Nat)) (some ((a+b:Nat):Nat))))=_
 unfold rQ
 rw [HT.qW,HT.qW,zbu h,zbu (by omega:a≤ts.length),Nat.add_sub_cancel_left]
theorem Lq {ts:List T}{b:Nat}(h:b≤ts.length):PY .dX none (some (b:Nat))=some (.lst (ts.take b)):=by
 show some (T.lst (rQ ts none (some (b:Nat))))=_
 unfold rQ
 rw [HT.qW,HT.Aq,zbu h]
 simp
theorem gu {f:FA}{τ τ':aD}{ts:List T}(h:f τ=some (ts,τ'))(hl:ts.length≤1000:=by exact zag rfl):cZ f τ=some (.tup ts,τ'):=by
 unfold cZ
 rw [h,zaa,if_pos (aW hl)]
theorem fF {f:FE}{τ τ':aD}{b:Bool}(h:f τ=some (.bl b,τ')):cw f τ=some (b,τ'):=by
 unfold cw
 rw [h]
 rfl
theorem nC {c:FT}{f g:FS}{τ τ':aD}(h:c τ=some (true,τ')):bZ c f g τ=f τ':=by
 unfold bZ
 rw [h]
 rfl
abbrev Ng:List T->Option T:=cg 5 3 (eY iJ)
def P0:FS:=fS 3 (cZ (.e (ar bz (eR (ag (az 1) (ag  .d1  au))) (.a dM 4 2)) (ar bz (ae 2) (ar dM (.a eO 4 2)  (ao cn (bM 2)) ))))
def HZ (ws:.U)(d:Nat):Bool×List Nat:=(decide (d%2=0),ws.getD (d/2%ws.length) [])
noncomputable abbrev xf (n:.I)(dg:.I)(ws:.U)(ts:List T)(x:.aW):aD:=[s (tx n),s (nt dg),s (bY ws),some (.own ts),x]
theorem Jh {n:.I}{dg:.I}{ws:.U}{ts:List T}{d:Nat}(h0:0<ws.length)(hw:ws.length≤1000)(hl:ts.length<900):P0 (xf n dg ws ts .d8)=some (.nx (xf n dg ws (ts++[gq (HZ ws d)]) .d8)):=by
 have bB:=mO
 have e1:ar bz (eR (ag (az 1) (ag  .d1  au))) (.a dM 4 2) (xf n dg ws ts .d8)=some (.int (lu (decide (d%2=0))),xf n dg ws ts .d8):=by
  refine aH (lO (ts:=[.int 1,.int (-1)]) .b1 .f) (.s (L0 (b:=2) .f)) ?_
  have:d%2=0\/d%2=1:=.e
  rcases this with h | h
  ·rw [h,decide_eq_true rfl];rfl
  ·rw [h,decide_eq_false .e];rfl
 have e2:ar bz (ae 2) (ar dM (.a eO 4 2)  (.h cn 2) ) (xf n dg ws ts .d8)=some (tx (ws.getD (d/2%ws.length) []),xf n dg ws ts .d8):=
  aH rfl (aH (.s (QF (b:=2) .f .e)) (.ac kT) (L0 h0)) (yz (zaY _ h0))
 unfold P0
 exact pZ (ts:=ts) rfl (gu (cu e1 e2)) (bT .e)
theorem CP {n:.I}{dg:.I}{ws:.U}(h0:0<ws.length)(hw:ws.length≤1000):∀(ds:.I) (ts:List T) (x:.aW),ts.length+ds.length≤900->∃y,cQ (ai 4) P0 (ds.map fun d=>br d) (xf n dg ws ts x)=some (.nx (xf n dg ws (ts++ds.map fun d=>gq (HZ ws d)) y))
 |[],ts,x,_=>⟨x,by simp [cQ]⟩
 |d::ds,ts,x,hl=>by
  rw [zaj] at hl
  obtain⟨y,h2⟩:=CP h0 hw ds (ts++[gq (HZ ws d)]) .d8 .bB
  refine⟨y,?_⟩
  rw [zaf,cK rfl (Jh h0 hw .e),h2]
  simp
theorem getD_mem {α:Type}{l:List α}{i:Nat}{d:α}(h:i<l.length):l.getD i d∈l:=by
 rw [zaD,zav h]
 exact List.getElem_mem h
theorem FD {n:.I}{dg:.I}{ws:.U}(hn:pY n)(hws:∀w∈ws,pY w)(h0:0<ws.length)(hw:ws.length≤900)(hd:Below dg [5,199,12,48,48,48,48]):∃p:Pt,Ng [tx n,nt dg,bY ws]=some p.law/\p.Ok/\p.nm=some n/\p.inner=true/\∀w∈p.ws,w∈ws:=by
 have hl:=hd.len
 have bB:=mO
 match dg,hd,hl with
 |[d0,d1,d2,d3,d4,d5,d6],hd,_ =>
  obtain⟨g0,g1,g2,_⟩:=hd
  have ix:∀(τ:aD) (i:Nat),τ[1]? = some (s (nt .ag))->i<7->ar bz (ae 1) (fC (br i)) τ=some (.int (([d0,d1,d2,d3,d4,d5,d6].getD i 0:Nat):Int),τ):=fun τ i h hi=>aH (uf h) rfl (C9 (l:=.ag) hi)
  have hc:cw (ar eJ .b8 (az 0)) .cj=some (decide (d0=0),.cj):=fF (aH (ix _ 0 rfl .f) rfl (by
   rw [gQ]
   show some (T.bl (decide ((d0:Int)=0)))=_
   congr 2
   exact decide_eq_decide.mpr .e))
  by_cases hz:d0=0
  ·refine⟨.gain n (Rat.divInt ((d1:Int)-99) (1+(d2:Int))) (ws.getD (d3%ws.length) []),ck rfl ?_,⟨hn,hws _ (getD_mem (zaY _ h0)),?_⟩,rfl,rfl,fun w hw=>?_⟩
   ·show eY iJ .cj=_
    unfold eY
    unfold aF
    rw [nC (by rw [hc,decide_eq_true hz]),bR (gu (DO (t:=.str "gain") (u:=tx n) (v:=cF (Rat.divInt ((d1:Int)-99) (1+(d2:Int)))) (x:=tx (ws.getD (d3%ws.length) [])) rfl rfl ?_ ?_))]
    ·rfl
    ·refine aA _ (cu (t:=.int ((d1:Int)-99)) (u:=.int (1+(d2:Int))) (aH (ix _ 1 rfl .f) rfl rfl) (aH rfl (ix _ 2 rfl .f) eE)) (LY .e .e .e)
    ·exact aH rfl (aH (ix _ 3 rfl .f) (.ac kT) (L0 h0)) (yz (zaY _ h0))
   ·have:=Be (a:=(d1:Int)-99) (b:=1+(d2:Int)) .e
    exact⟨.e,.e⟩
   ·rw [zac.mp hw]
    exact getD_mem (zaY _ h0)
  ·refine⟨.sum n (([d3,d4,d5,d6].take d0).map (HZ ws)),ck rfl ?_,⟨hn,?_,fun t ht=>?_⟩,rfl,rfl,fun w hw=>?_⟩
   ·obtain⟨y,hy⟩:=CP (n:=n) (dg:=.ag) h0 .e ([d3,d4,d5,d6].take d0) [] none .j
    have e:eY iJ=aF (.D (.u .b8 (az 0)) (cZ (ag .fE (ag (ae 0) (.e (ao iJ (ag (ar lJ .b2 (az 99)) (.ay (ar aR (az 1) (.a bz 1 2))))) (ar bz (ae 2) (ar dM (.a bz 1 3) (ao cn (bM 2)))))))))
     (aF (bX 3 au) (aF (fz (aZ .eO) (ai 4) P0) (bj (cZ (ag .cV (.c 0 (.h gh 3))))))):=rfl
    show eY iJ .cj=_
    rw [e,aO (cH (by rw [hc,decide_eq_false hz])),aO (show bX 3 au .cj=some (.nx .eG) from rfl)]
    have hs:yJ (ae 1) (dU (az 3)) (dU (ar aR (az 3) .b8)) .eG=some (nt ([d3,d4,d5,d6].take d0),xf n .ag ws [] none):=by
     have q1:ar aR (az 3) .b8 .eG=some (.int ((3+d0:Nat):Int),xf n .ag ws [] none):=aH rfl (ix _ 0 rfl .f) (jI (a:=3))
     unfold yJ dU
     rw [show ae 1 .eG=some (nt .ag,xf n .ag ws [] none) from rfl,zaa]
     dsimp only
     rw [show az 3 .eG=some (.int ((3:Nat):Int),xf n .ag ws [] none) from rfl,zaa]
     dsimp only
     rw [zaa]
     dsimp only
     rw [q1,zaa]
     dsimp only
     rw [zaa]
     dsimp only
     rw [Lp (a:=3) (b:=d0) .j]
     show some (T.lst ((List.map (fun d=>br d) [d3,d4,d5,d6]).take d0),_)=_
     rw [<- zbW]
    have hf:aZ .eO .eG=some (([d3,d4,d5,d6].take d0).map (fun d=>br d),xf n .ag ws [] none):=by
     unfold aZ
     rw [hs]
     rfl
    rw [aO (iH hf hy),zbf]
    show bj _ _=some (.rt (T.tup [.str "sum", tx n,.tup ((([d3,d4,d5,d6].take d0).map (HZ ws)).map gq)]))
    rw [zaz]
    rfl
   ·rw [zah,za9]
    simp only [List.length_cons,List.length_nil]
    omega
   ·obtain⟨d,_,rfl⟩:=zao.mp ht
    exact hws _ (getD_mem (zaY _ h0))
   ·obtain⟨t,ht,rfl⟩:=zao.mp hw
    obtain⟨d,_,rfl⟩:=zao.mp ht
    exact getD_mem (zaY _ h0)
theorem rq {g:FG}{E:List T->Option Sl->aD}{fb:FS}{φ:Nat->T}{P:Nat->Prop}(hg:∀ts x (k:Nat),g (br k) (E ts x)=some (E ts .aM))(hb:∀ts k,P k->ts.length<900->fb (E ts .aM)=some (.nx (E (ts++[φ k]) .aM))):
  ∀(ks:.I) (ts:List T) (x:.aW),(∀k∈ks,P k)->ts.length+ks.length≤900->∃y,cQ g fb (ks.map fun k=>br k) (E ts x)=some (.nx (E (ts++ks.map φ) y))
 |[],ts,x,_,_=>⟨x,by simp [cQ]⟩
 |k::ks,ts,x,hk,hl=>by
  rw [zaj] at hl
  obtain⟨y,h2⟩:=rq hg hb ks (ts++[φ k]) .aM (fun z hz=>hk z (zae _ hz)) .bB
  refine⟨y,?_⟩
  rw [zaf,cK (hg ts x k) (hb ts k (hk k zad) .e),h2]
  simp
noncomputable abbrev NW:List T->Option T:=cg 12 1 (ik yH rW KA Ng)
abbrev qX (sc:.dz):T:=.scr (sc.map T.int)
abbrev eP (nm:.cq)(n:Nat):List .ce:=(List.range n).map nm
noncomputable abbrev vX (sc:.dz)(c:Int)(a b o m:Nat)(l6 l7:.U)(ts:List T)(x9 x10 x11:.aW):aD:=[s (qX sc),s .ai,s (br a),s (br b),s (br o),s (br m),s (bY l6),s (bY l7),some (.own ts),x9,x10,x11]
theorem Jy {nm:.cq}{n i:Nat}(h:i<n):(eP nm n).getD i []=nm i:=by
 unfold eP
 rw [zaD,zaT,zbM h]
 rfl
theorem kq {nm:.cq}{n:Nat}:(eP nm n).length=n:=by
 unfold eP
 rw [zah,za3]
theorem xN {nm:.cq}{n i:Nat}(h:i<n):bz (bY (eP nm n)) (br i)=some (tx (nm i)):=by rw [yz (by rw [kq];exact h),Jy h]
def Qb:FS:=(aF (bA 10 (ao rW (.m yH)))
  (aF (fS 8 (ao Ng (.ag (.o 10 7))))
  (bA 7 (ar aR (ae 7) (eR (.ag au))))))
theorem QD:Ir [5,199,12,48,48,48,48]:=by
 have bB:=mO
 intro x hx
 simp only [List.mem_cons,List.not_mem_nil,or_false] at hx
 omega
theorem GZ {nm:.cq}{n:Nat}:eP nm n++[nm n]=eP nm (n+1):=by
 unfold eP
 rw [List.range_succ,zaH]
 rfl
def Qq (nm:.cq)(i:Nat)(p:Pt):Prop:=p.Ok/\p.nm=some (nm i)/\p.inner=true/\∀w∈p.ws,w∈eP nm i
theorem JM (sc:.dz)(c:Int){a b o m N k:Nat}{nm:.cq}(hn:∀i,pY (nm i))(hN:N≤100)(hk:a+1+b+k<N)(ts:List T)(x10:.aW)(hl:ts.length<900):∃p y10,Qq nm (a+1+b+k) p /\
  Qb (.au .aM)=some (.nx (vX sc c a b o m .cN (eP nm (a+1+b+k+1)) (ts++[p.law]) .aM y10 none)):=by
 have bB:=mO
 obtain⟨dg,e1,e2⟩:=jL (sc.getD (4+k) 0+7919*(k:Int)) QD .f
 obtain⟨p,q1,q2,q3,q4,q5⟩:=FD (n:=nm (a+1+b+k)) (ws:=eP nm (a+1+b+k)) (hn _) (fun w hw=>by obtain⟨i,_,rfl⟩:=zao.mp hw;exact hn i) (by rw [kq];omega) (by rw [kq];omega) e2
 refine⟨p,s (nt dg),⟨q2,q3,q4,q5⟩,?_⟩
 have ix:∀(l7:.U) (us:List T) (x:.aW),ar bz (ae 6) (ar aR (.r 3) (ae 9)) (vX sc c a b o m .cN l7 us .aM x none)=some (tx (nm (a+1+b+k)),vX sc c a b o m .cN l7 us .aM x none):=fun l7 us x =>
  aH rfl (aH .fG rfl jI) (xN hk)
 have h1:ao rW (.m yH) (.au .aM)
   = some (nt dg,vX sc c a b o m .cN (eP nm (a+1+b+k)) ts .aM x10 none):=
  aA _ (cu (aH (aA _ (cu rfl (.s (jI (a:=4)))) (mD sc (4+k))) (.s (jP .e .e)) eE) (lO (ts:=[.int 5,.int 199,.int 12,.int 48,.int 48,.int 48,.int 48]) rfl .f)) e1
 unfold Qb
 rw [aO (bV (τ2:=vX sc c a b o m .cN (eP nm (a+1+b+k)) ts .aM (s (nt dg)) none) h1 rfl),aO (pZ (ts:=ts) (t:=p.law) rfl (aA _ (A0 (ix _ _ _) rfl rfl) q1) (bT .e))]
 have hg:aR (bY (eP nm (a+1+b+k))) (.lst [tx (nm (a+1+b+k))])=some (bY (eP nm (a+1+b+k+1))):=by
  rw [oB (by rw [List.length_map,kq];exact aW .j)]
  rw [show [tx (nm (a+1+b+k))]=[nm (a+1+b+k)].map tx from rfl,<- zaH,GZ]
 exact bV (τ1:=vX sc c a b o m .cN (eP nm (a+1+b+k)) (ts++[p.law]) .aM (s (nt dg)) none) (aH rfl (lO (bJ (ix _ _ _)) .ef) hg) rfl
theorem Dc (sc:.dz)(c:Int){a b o m N:Nat}{nm:.cq}(hn:∀i,pY (nm i))(hN:N≤100):∀(j k:Nat) (ts:List T) (x9 x10:.aW),a+1+b+k+j=N->ts.length+j≤900->∃(is:.bH) (y9 y10:.aW),is.length=j/\(∀i (h:i<is.length),Qq nm (a+1+b+k+i) is[i]) /\
  cQ (ai 9) Qb (TM.upTo (k:Nat) j) (.au x9)=some (.nx (vX sc c a b o m .cN .cN (ts++is.map Pt.law) y9 y10 none))
 |0,k,ts,x9,x10,he,_=>⟨[],x9,x10,rfl,fun i h=>(Nat.not_lt_zero _ h).elim,by
  rw [show a+1+b+k=N by omega]
  simp [TM.upTo,cQ]⟩
 |j+1,k,ts,x9,x10,he,hl=>by
  obtain⟨p,y10,hp,h1⟩:=JM (o:=o) (m:=m) sc c hn hN (show a+1+b+k<N by omega) ts x10 .e
  obtain⟨is,z9,z10,g1,g2,g3⟩:=Dc sc c (a:=a) (b:=b) (o:=o) (m:=m) hn hN j (k+1) (ts++[p.law]) .aM y10 .e .bB
  refine⟨p::is,z9,z10,by rw [zaj,g1],fun i h=>?_,?_⟩
  ·cases i with
   |zero=>exact hp
   |succ i =>
    have:=g2 i .aC
    rw [show a+1+b+k+(i+1)=a+1+b+(k+1)+i by omega]
    exact this
  ·rw [show TM.upTo (k:Nat) (j+1)=br k::TM.upTo (((k+1:Nat)):Int) j from rfl,cK rfl h1,show a+1+b+k+1=a+1+b+(k+1) by omega,g3]
   simp
def partsOf (nm:.cq)(a b o:Nat)(is:.bH)(e:Nat->Nat):List Pt:=
 (List.range (a+1)).map (fun i=>Pt.inp (nm i))++is++(List.range b).map (fun k=>Pt.cell (nm (a+1+k)) (nm (e k)))++(List.range (o+1)).map fun k=>Pt.out (nm (e (b+k)))
theorem DP {n x:Nat}:∀{ds:.I} {k:Nat},Below ds (List.replicate n x)->k<n->ds.getD k 0<x:=fun {ds k} h hk=>by
 have:=Below.get h (i:=k) (by rw [zba];exact hk)
 rwa [zaD,zaD,List.getElem?_replicate,if_pos hk,Option.getD_some,<- zaD] at this
theorem Rh {f:FE}{τ:aD}{n:Nat}(h:f τ=some (br n,τ))(h1:n≤1000):dy (.ay f) τ=some (TM.upTo ((0:Nat):Int) n,τ):=by
 have:=Ao (n:=(n:Int)) h .e .e
 rwa [zaM] at this
theorem Hf (sc:.dz)(c:Int){a b o m N:Nat}{nm:.cq}{en:.I}(hN:a+1+b≤N)(hN1:N≤100)(hb:b≤en.length)(he:∀k,k<en.length->en.getD k 0<N)(ts:List T)(x9 x10:.aW)(hl:ts.length≤200):
  ∃y9,cQ (ai 9) .bz ((List.range b).map fun k=>br k) (vX sc c a b o m .cN .cN ts x9 x10 (s (nt en)))
   = some (.nx (vX sc c a b o m .cN .cN (ts++(List.range b).map fun k=>(Pt.cell (nm (a+1+k)) (nm (en.getD k 0))).law) y9 x10 (s (nt en)))):=
 rq (E:=fun ts x=>vX sc c a b o m .cN .cN ts x x10 (s (nt en))) (P:=fun k=>k<b) (fun ts x k=>rfl) (fun ts k hk hl=>pZ (ts:=ts) rfl (gu (A0 rfl (aH rfl .fG (xN .e)) (aH rfl (.s (C9 .e)) (xN (he k .e))))) (bT .e))
  (List.range b) ts x9 (fun k hk=>zaQ.mp hk) (by rw [za3];omega)
theorem JK (sc:.dz)(c:Int){a b o m N:Nat}{nm:.cq}{en:.I}(hN1:N≤100)(hb:b+o+1≤en.length)(ho:o≤10)(he:∀k,k<en.length->en.getD k 0<N)(ts:List T)(x9 x10:.aW)(hl:ts.length≤200):
  ∃y9,cQ (ai 9) .bV ((List.range (o+1)).map fun k=>br k) (vX sc c a b o m .cN .cN ts x9 x10 (s (nt en)))
   = some (.nx (vX sc c a b o m .cN .cN (ts++(List.range (o+1)).map fun k=>(Pt.out (nm (en.getD (b+k) 0))).law) y9 x10 (s (nt en)))):=
 rq (E:=fun ts x=>vX sc c a b o m .cN .cN ts x x10 (s (nt en))) (P:=fun k=>k<o+1) (fun ts x k=>rfl) (fun ts k hk hl=>pZ (ts:=ts) rfl (gu (cu rfl (aH rfl (aH rfl (.s jI) (C9 .e)) (xN (he _ .e))))) (bT .e))
  (List.range (o+1)) ts x9 (fun k hk=>zaQ.mp hk) (by rw [za3];omega)
theorem Cp {f:FE}{g:FE}{τ:aD}{nm:.cq}{n k:Nat}(h:f τ=some (bY (eP nm n),τ))(hg:g τ=some (br k,τ))(hk:k≤n):yJ f fj (dU g) τ=some (bY (eP nm k),τ):=by
 unfold yJ dU fj
 rw [h,zaa]
 dsimp only
 rw [zaa]
 dsimp only
 rw [hg,zaa]
 dsimp only
 rw [zaa]
 dsimp only
 rw [Lq (by rw [zah,kq];exact hk),zaa]
 congr 3
 unfold eP
 rw [<- zbW,<- zbW,List.take_range,zbu hk]
theorem EI {i no:Nat}{cap:.I}{fi:FA}{fg:FG}{ft:FT}{fe:FE}{τ:aD}{ts us:List T}(h1:fi τ=some (ts,τ))(h2:frzAll cap τ=τ)(h3:bL (cW no cap τ)=true)(h4:eD fg ft fe ts (cW no cap τ) []=some us):fB i no cap fi fg ft fe τ=some (.nx (τ.set i (.v us))):=by
 unfold fB
 rw [h1,zaa]
 dsimp only
 rw [h2,if_pos h3,h4]
 rfl
structure Pn (nm:.cq)(a b o m:Nat)(is:.bH)(e:Nat->Nat):Prop where
 nam:∀k,pY (nm k)
 inj:∀i j,i<a+1+b+m->j<a+1+b+m->nm i=nm j->i=j
 ha:a<2
 hb:b<5
 ho:o<2
 hm:m<9
 len:is.length=m
 inn:∀i (h:i<is.length),Qq nm (a+1+b+i) is[i]
 he:∀k,k<b+o+1->e k<a+1+b+m
theorem FJ (sc:.dz):∃nm a b o m is e,Pn nm a b o m is e/\NW [qX sc]=some (.lst ((partsOf nm a b o is e).map Pt.law)):=by
 have bB:=mO
 have b4:Ir [2,5,2,9]:=by
  intro x hx
  simp only [List.mem_cons,List.not_mem_nil,or_false] at hx
  omega
 obtain⟨dg,e1,e2⟩:=jL (sc.getD 0 0) b4 .f
 have hl:=e2.len
 match dg,e2,hl with
 |[a,b,o,m],e2,_ =>
  obtain⟨ha,hb,ho,hm,_⟩:=e2
  obtain⟨nm,f1,f2,f3⟩:=FH (sc.getD 1 0) (n:=a+1+b+m) .e
  have f1':KA [.int (sc.getD 1 0),.int ((a+1+b+m:Nat):Int)]=some (bY .dq):=by
   rw [f1]
   unfold bY eP
   rw [zaz]
   rfl
  generalize hcc:sc.getD 0 0=c at *
  obtain⟨is,y9,y10,g1,g2,g3⟩:=Dc sc c (a:=a) (b:=b) (o:=o) (m:=m) (N:=a+1+b+m) f2 .e m 0 ((List.range (a+1)).map fun i=>(Pt.inp (nm i)).law) none none .e .j
  obtain⟨en,h1,h2⟩:=jL (sc.getD 2 0) (bs:=List.replicate (b+o+1) (a+1+b+m)) (Cm .e .e) .j
  have hle:=h2.len
  rw [zba] at hle
  have hen:∀k,k<en.length->en.getD k 0<a+1+b+m:=fun k hk=>DP h2 .e
  obtain⟨z9,k1⟩:=Hf sc c (a:=a) (b:=b) (o:=o) (m:=m) (N:=a+1+b+m) (nm:=nm) (en:=en) .e .e .e hen .aL y9 y10 .j
  obtain⟨w9,k2⟩:=JK sc c (a:=a) (b:=b) (o:=o) (m:=m) (N:=a+1+b+m) (nm:=nm) (en:=en) .e .e .e hen (.aL++(List.range b).map fun k=>(Pt.cell (nm (a+1+k)) (nm (en.getD k 0))).law) z9 y10 .j
  refine⟨nm,a,b,o,m,is,fun k=>en.getD k 0,⟨f2,f3,ha,hb,ho,hm,g1,fun i h=>g2 i h,fun k hk=>hen k .e⟩,ck rfl ?_⟩
  show ik yH rW KA Ng .cT=_
  have hbase:ik yH rW KA Ng=(aF (bA 1 (ao yH (.e (ae 0) (az 0))))
   (aF (kj (ao rW .ch) (vM (ay (ai 2) (ay (ai 3) (.a 4 5)))))
   (aF (bA 6 (ao KA (.aA yH)))
   (aF (bA 7 (yJ (ae 6) fj (dU (.r 3))))
   (aF (fB 8 1 [] (aZ .eY) (ai 0) aS (cZ (ag .dQ (bM 0))))
   (aF (fz (dy (bM 5)) (ai 9) Qb)
   (aF (bA 11 (ao rW (.G yH)))
   (aF (fz (dy (bM 3)) (ai 9) .bz)
   (aF (fz (dy (.ay (.a aR 4 1))) (ai 9) .bV)
   (bj (ae 8))))))))))):=rfl
  rw [hbase]
  clear hbase
  have s1:ao yH (.e (ae 0) (az 0)) .cT=some (.int c,.cT):=by
   refine aA _ .b1 ?_
   rw [<- hcc]
   exact mD sc 0
  rw [aO (bV (τ2:=.bp) s1 rfl)]
  have s2:ao rW .ch .bp=some (nt [a,b,o,m],.bp):=aA _ (cu rfl (lO (ts:=[.int 2,.int 5,.int 2,.int 9]) rfl .f)) e1
  rw [aO (show kj (ao rW .ch) (vM (ay (ai 2) (ay (ai 3) (.a 4 5)))) .bp=some (.nx .b5) by
   unfold kj
   rw [s2]
   rfl)]
  clear s1 s2
  have s3:ao KA (.aA yH) .b5=some (bY .dq,.b5):=
   aA _ (cu (aA _ .b1 (mD sc 1)) (aH .fG rfl jI)) f1'
  rw [aO (bV (τ2:=.bb) s3 rfl)]
  have s4:yJ (ae 6) fj (dU (.r 3)) .bb=some (bY (eP nm (a+1+b)),.bb):=
   Cp rfl .fG .e
  rw [aO (bV (τ2:=.af) s4 rfl)]
  clear s3 s4
  have s5:aZ .eY .af=some ((eP nm (a+1)).map tx,.af):=by
   unfold aZ
   rw [Cp (n:=a+1+b+m) (k:=a+1) rfl (.s (jI (b:=1))) .e]
   rfl
  have s6:eD (ai 0) aS (cZ (ag .dQ (bM 0))) ((eP nm (a+1)).map tx) [none] []=some ([]++(eP nm (a+1)).map fun n=>(Pt.inp n).law):=dQ rfl _ _ _ (fun n hn=>gu .b1) (by rw [kq];exact aW .j)
  rw [aO (show fB 8 1 [] (aZ .eY) (ai 0) aS (cZ (ag .dQ (bM 0))) .af=some (.nx (vX sc c a b o m .dq (eP nm (a+1+b+0)) ((List.range (a+1)).map fun i=>(Pt.inp (nm i)).law) none none none)) by
   rw [List.nil_append,show ((eP nm (a+1)).map fun n=>(Pt.inp n).law)=(List.range (a+1)).map fun i=>(Pt.inp (nm i)).law by unfold eP;rw [List.map_map];rfl] at s6
   exact EI s5 rfl rfl s6),aO (iH (Rh (n:=m) rfl .e) g3)]
  clear s5 s6 g3
  have s7:ao rW (.G yH) (vX sc c a b o m .dq .dq .aL y9 y10 none)=some (nt en,vX sc c a b o m .dq .dq .aL y9 y10 none):=by
   refine aA _ (cu (aA _ .b1 (mD sc 2)) (aH (lO (bJ (.ac kT)) .ef) (aH (.s jI) rfl (jI (b:=1))) ?_)) h1
   rw [<- G1,kq]
   have g:=CK (ts:=[.int ((a+1+b+m:Nat):Int)]) (k:=((b+o+1:Nat):Int)) .e .e (by rw [zaM,zau];exact aW .e)
   rw [zaM] at g
   exact g
  rw [aO (bV (τ2:=vX sc c a b o m .dq .dq .aL y9 y10 (s (nt en))) s7 rfl),aO (iH (mH (n:=b) rfl .e) k1),aO (iH (mH (n:=o+1) (.s (jI (b:=1))) .e) k2)]
  unfold partsOf
  simp only [List.map_append,List.map_map]
  rfl
def Pt.isIn:Pt->Bool | .inp _=>true | _=>false
def Pt.isCell:Pt->Bool | .cell _ _=>true | _=>false
def Pt.isOut:Pt->Bool | .out _=>true | _=>false
structure Gp (ps:.bH)(r:.cr):Prop where
 ok:∀p∈ps,p.Ok
 nd:(ps.filterMap Pt.nm).Nodup
 ws:∀p∈ps,∀w∈p.ws,w∈ps.filterMap Pt.nm
 rk:∀p∈ps,p.inner=true->∀n,p.nm=some n->∀w∈p.ws,r w<r n
 ins:1≤(ps.filter Pt.isIn).length/\(ps.filter Pt.isIn).length≤2
 cells:(ps.filter Pt.isCell).length≤4
 outs:1≤(ps.filter Pt.isOut).length/\(ps.filter Pt.isOut).length≤2
 len:ps.length≤24
theorem Gp.perm {ps qs:.bH}{r:.cr}(h:Gp ps r)(e:ps.Perm qs):Gp qs r:=by
 have m:∀p,p∈qs->p∈ps:=fun p hp=>e.mem_iff.mpr hp
 have f:=e.filterMap Pt.nm
 refine⟨fun p hp=>h.ok p (m p hp),f.nodup_iff.mp h.nd,fun p hp w hw=>f.mem_iff.mp (h.ws p (m p hp) w hw),fun p hp=>h.rk p (m p hp),?_,?_,?_,?_⟩
 ·rw [<- (e.filter Pt.isIn).length_eq];exact h.ins
 ·rw [<- (e.filter Pt.isCell).length_eq];exact h.cells
 ·rw [<- (e.filter Pt.isOut).length_eq];exact h.outs
 ·rw [<- e.length_eq];exact h.len
theorem zj:∀(is:.bH) (f:.cq),(∀i (h:i<is.length),is[i].nm=some (f i))->is.filterMap Pt.nm=(List.range is.length).map f
 |[],_,_=>rfl
 |p::is,f,h=>by
  have h0:p.nm=some (f 0):=h 0 .h
  have ih:=zj is (fun i=>f (i+1)) fun i hi=>h (i+1) .dr
  rw [zaZ (b:=f 0) h0,ih,zaj,List.range_succ_eq_map,zaf,zaz]
  rfl
theorem Bj {α:Type}{f:α->Pt}{g:α->List Nat}(h:∀x,(f x).nm=some (g x)):∀l:List α,(l.map f).filterMap Pt.nm=l.map g
 |[]=>rfl
 |x::l=>by rw [zaf,zaZ (b:=g x) (h x),Bj h l,zaf]
theorem CH {α:Type}{f:α->Pt}(h:∀x,(f x).nm=none):∀l:List α,(l.map f).filterMap Pt.nm=[]
 |[]=>rfl
 |x::l=>by rw [zaf,zbs (h x),CH h l]
def idxs (a b m:Nat):List Nat:=List.range (a+1)++(List.range m).map (fun i=>a+1+b+i)++(List.range b).map fun k=>a+1+k
variable {nm:.cq}{a b o m:Nat}{is:.bH}{e:Nat->Nat}
theorem Pn.names (h:Pn nm a b o m is e):(partsOf nm a b o is e).filterMap Pt.nm=(idxs a b m).map nm:=by
 unfold partsOf idxs
 rw [zaX,zaX,zaX,Bj (g:=nm) .d2,Bj (g:=fun k=>nm (a+1+k)) .d2,CH .d2,zj is (fun i=>nm (a+1+b+i)) (fun i hi=>(h.inn i hi).2.1),h.len,zax,zaH,zaH,zaz,zaz]
 rfl
theorem zt {a b m i:Nat}:i∈idxs a b m ↔ i<a+1+b+m:=by
 unfold idxs
 simp only [List.mem_append,List.mem_map,List.mem_range]
 constructor
 ·rintro ((h | ⟨j,h,rfl⟩) | ⟨j,h,rfl⟩)<;>omega
 ·intro h
  by_cases h1:i<a+1
  ·exact .inl (.inl h1)
  ·by_cases h2:i<a+1+b
   ·exact .inr ⟨i-(a+1),.e,.e⟩
   ·exact .inl (.inr ⟨i-(a+1+b),.e,.e⟩)
theorem zU (n k:Nat):((List.range n).map fun i=>k+i).Nodup:=by
 refine zbU.mpr ((List.nodup_range).imp fun hne e=>hne .e)
theorem Je:(idxs a b m).Nodup:=by
 unfold idxs
 rw [zaP,zaP]
 refine⟨⟨List.nodup_range,zU m (a+1+b),fun x hx y hy e=>?_⟩,zU b (a+1),fun x hx y hy e=>?_⟩
 ·obtain⟨i,_,rfl⟩:=zao.mp hy
  have:=zaQ.mp hx
  omega
 ·obtain⟨i,hi,rfl⟩:=zao.mp hy
  have:=zaQ.mp hi
  rcases zaB.mp hx with hx | hx
  ·have:=zaQ.mp hx
   omega
  ·obtain⟨j,_,rfl⟩:=zao.mp hx
   omega
theorem GV {N:Nat}(inj:∀i j,i<N->j<N->nm i=nm j->i=j){l:.I}(hl:l.Nodup)(hN:∀x∈l,x<N):(l.map nm).Nodup:=
 zbU.mpr (hl.imp_of_mem fun hx hy hne e=>hne (inj _ _ (hN _ hx) (hN _ hy) e))
theorem nK {p:Pt}(h:p∈partsOf nm a b o is e):(∃i,i<a+1/\p=.inp (nm i))\/(∃i,∃hi:i<is.length,p=is[i])\/(∃k,k<b/\p=.cell (nm (a+1+k)) (nm (e k)))\/∃k,k<o+1/\p=.out (nm (e (b+k))):=by
 unfold partsOf at h
 rcases zaB.mp h with h | h
 ·rcases zaB.mp h with h | h
  ·rcases zaB.mp h with h | h
   ·obtain⟨i,hi,rfl⟩:=zao.mp h
    exact .inl ⟨i,zaQ.mp hi,rfl⟩
   ·obtain⟨i,hi,rfl⟩:=zbJ h
    exact .inr (.inl ⟨i,hi,rfl⟩)
  ·obtain⟨i,hi,rfl⟩:=zao.mp h
   exact .inr (.inr (.inl ⟨i,zaQ.mp hi,rfl⟩))
 ·obtain⟨i,hi,rfl⟩:=zao.mp h
  exact .inr (.inr (.inr ⟨i,zaQ.mp hi,rfl⟩))
theorem qQ {α:Type}{f:α->Pt}{t:Pt->Bool}(h:∀x,t (f x)=true):∀l:List α,((l.map f).filter t).length=l.length
 |[]=>rfl
 |x::l=>by rw [zaf,za2 (h x),zaj,zaj,qQ h l]
theorem Bi {t:Pt->Bool}:∀l:List Pt,(∀p∈l,t p=false)->(l.filter t).length=0
 |[],_=>rfl
 |x::l,h=>by rw [List.filter_cons_of_neg (by rw [h x zad];exact zaK),Bi l fun p hp=>h p (zae _ hp)]
open Classical in
def J4 (nm:.cq)(N:Nat)(w:.I):Nat:=if h:∃i,i<N/\nm i=w then h.choose else 0
theorem Df {N:Nat}(inj:∀i j,i<N->j<N->nm i=nm j->i=j){i:Nat}(hi:i<N):J4 nm N (nm i)=i:=by
 have h:∃j,j<N/\nm j=nm i:=⟨i,hi,rfl⟩
 unfold J4
 rw [dif_pos h]
 exact inj _ _ h.choose_spec.1 hi h.choose_spec.2
theorem El {p:Pt}(h:p.inner=true):p.isIn=false/\p.isCell=false/\p.isOut=false:=by
 cases p<;>first | exact⟨rfl,rfl,rfl⟩ | cases h
theorem Pn.gp (h:Pn nm a b o m is e):Gp (partsOf nm a b o is e) (J4 nm (a+1+b+m)):=by
 have mem:∀i,i<a+1+b+m->nm i∈(partsOf nm a b o is e).filterMap Pt.nm:=fun i hi=>by
  rw [h.names]
  exact zao.mpr ⟨i,zt.mpr hi,rfl⟩
 have i1:∀p∈is,p.isIn=false/\p.isCell=false/\p.isOut=false:=fun p hp=>by
  obtain⟨i,hi,rfl⟩:=zbJ hp
  exact El (h.inn i hi).2.2.1
 have cnt:∀t:Pt->Bool,(∀p∈is,t p=false)->((partsOf nm a b o is e).filter t).length=(((List.range (a+1)).map fun i=>Pt.inp (nm i)).filter t).length+(((List.range b).map fun k=>Pt.cell (nm (a+1+k)) (nm (e k))).filter t).length+(((List.range (o+1)).map fun k=>Pt.out (nm (e (b+k)))).filter t).length:=fun t ht=>by
  unfold partsOf
  rw [zbR,zbR,zbR,zai,zai,zai,Bi is ht]
  rfl
 have no:∀{α:Type} {f:α->Pt} {t:Pt->Bool} (l:List α),(∀x,t (f x)=false)->((l.map f).filter t).length=0:=fun l ht=>Bi _ fun p hp=>by
  obtain⟨x,_,rfl⟩:=zao.mp hp
  exact ht x
 have ha:=h.ha
 have hb:=h.hb
 have ho:=h.ho
 have hm:=h.hm
 refine⟨fun p hp=>?_,?_,fun p hp w hw=>?_,fun p hp hi n hn w hw=>?_,?_,?_,?_,?_⟩
 ·rcases nK hp with ⟨i,hi,rfl⟩ | ⟨i,hi,rfl⟩ | ⟨k,hk,rfl⟩ | ⟨k,hk,rfl⟩
  ·exact h.nam i
  ·exact (h.inn i hi).1
  ·exact⟨h.nam _,h.nam _⟩
  ·exact h.nam _
 ·rw [h.names]
  exact GV h.inj Je fun x hx=>zt.mp hx
 ·rcases nK hp with ⟨i,hi,rfl⟩ | ⟨i,hi,rfl⟩ | ⟨k,hk,rfl⟩ | ⟨k,hk,rfl⟩
  ·cases hw
  ·obtain⟨j,hj,rfl⟩:=zao.mp ((h.inn i hi).2.2.2 w hw)
   have:=zaQ.mp hj
   have:=h.len
   exact mem j .e
  ·rw [zac.mp hw]
   exact mem _ (h.he k .e)
  ·rw [zac.mp hw]
   exact mem _ (h.he (b+k) .e)
 ·rcases nK hp with ⟨i,hi,rfl⟩ | ⟨i,hi',rfl⟩ | ⟨k,hk,rfl⟩ | ⟨k,hk,rfl⟩
  ·cases hi
  ·have hl:=h.len
   obtain⟨j,hj,rfl⟩:=zao.mp ((h.inn i hi').2.2.2 w hw)
   have hj:=zaQ.mp hj
   have en:=(h.inn i hi').2.1
   rw [hn] at en
   cases en
   rw [Df h.inj .e,Df h.inj .e]
   exact hj
  ·cases hi
  ·cases hi
 ·rw [cnt _ fun p hp=>(i1 p hp).1,qQ .d2,no _ .d2,no _ .d2,za3]
  omega
 ·rw [cnt _ fun p hp=>(i1 p hp).2.1,no _ .d2,qQ .d2,no _ .d2,za3]
  omega
 ·rw [cnt _ fun p hp=>(i1 p hp).2.2,no _ .d2,no _ .d2,qQ .d2,za3]
  omega
 ·have:=h.len
  unfold partsOf
  simp only [List.length_append,List.length_map,List.length_range]
  omega
abbrev NS:List T->Option T:=cg 5 2 (iS rW)
noncomputable abbrev C1 (P:T)(c:Int)(qs:.bH)(x3 x4:.aW):aD:=[s P,s .ai,some (.own (qs.map Pt.law)),x3,x4]
theorem Jo (P:T)(c:Int){qs:.bH}{p:Pt}{d:Nat}(hd:d≤qs.length)(hl:qs.length≤100):D9 2 (ae 4) (ae 3) (C1 P c qs .a0 .d8)=some (.nx (C1 P c (qs.take d++p::qs.drop d) .a0 .d8)):=by
 unfold D9
 show (((ae 4 (C1 P c qs .a0 .d8)).bind fun p=>_):Option R)=_
 rw [show ae 4 (C1 P c qs .a0 .d8)=some (br d,C1 P c qs .a0 .d8) from rfl,zaa]
 dsimp only
 rw [show ae 3 (C1 P c qs .a0 .d8)=some (p.law,C1 P c qs .a0 .d8) from rfl,zaa]
 show (if 0≤(d:Int)/\(d:Int).toNat≤(qs.map Pt.law).length/\(qs.map Pt.law).length<1000 then _ else none)=_
 rw [zaM,zah,if_pos ⟨.e,hd,.e⟩]
 have e:(qs.map Pt.law).take d++p.law::(qs.map Pt.law).drop d=(qs.take d++p::qs.drop d).map Pt.law:=by rw [zaH,zaf,zbW,List.map_drop]
 show some (R.nx [s P,s .ai,some (.own ((qs.map Pt.law).take d++p.law::(qs.map Pt.law).drop d)),s p.law,s (br d)])=_
 rw [e]
theorem C2 (P:T)(c:Int):∀(ps:.bH) (ds:.I) (k:Nat) (qs:.bH) (x3 x4:.aW),Below ds ((List.range' k ps.length).map (· + 1))->qs.length=k->k+ps.length≤100->∃rs y3 y4,(ps++qs).Perm rs/\cQ .fm (D9 2 (ae 4) (ae 3)) ((List.zip ps ds).map fun p=>.tup [p.1.law,.int (p.2:Nat)]) (C1 P c qs x3 x4)=some (.nx (C1 P c rs y3 y4))
 |[],ds,k,qs,x3,x4,_,_,_=>⟨qs,x3,x4,List.Perm.refl _,by simp [cQ]⟩
 |p::ps,[],k,qs,x3,x4,hb,_,_=>by
  rw [zaj,List.range'_succ,zaf] at hb
  exact hb.elim
 |p::ps,d::ds,k,qs,x3,x4,hb,hq,hl=>by
  rw [zaj,List.range'_succ,zaf] at hb
  rw [zaj] at hl
  obtain⟨rs,y3,y4,e1,e2⟩:=C2 P c ps ds (k+1) (qs.take d++p::qs.drop d) .a0 .d8 hb.2 (by rw [zai,zaj,za9,zbk];have:=hb.1;omega) .e
  refine⟨rs,y3,y4,List.Perm.trans ?_ e1,?_⟩
  ·have m:(qs.take d++p::qs.drop d).Perm (p::qs):=by
    have:=List.perm_middle (a:=p) (l₁:=qs.take d) (l₂:=qs.drop d)
    rwa [List.take_append_drop] at this
   exact ((List.perm_middle (a:=p) (l₁:=ps) (l₂:=qs)).symm.trans ((m.symm).append_left ps))
  ·rw [zbP,zaf,cK rfl (Jo P c (by have:=hb.1;omega) .e),e2]
theorem IS (c:Int){ps:.bH}(hl:ps.length≤100):∃rs:List Pt,ps.Perm rs/\NS [.lst .ej,.int c]=some (.lst (rs.map Pt.law)):=by
 have bB:=mO
 have hbs:Ir ((List.range' 0 ps.length).map (· + 1)):=fun x hx=>by
  obtain⟨i,hi,rfl⟩:=zao.mp hx
  have:=List.mem_range'_1.mp hi
  omega
 obtain⟨ds,e1,e2⟩:=jL c hbs .j
 obtain⟨rs,y3,y4,g1,g2⟩:=C2 .J c ps ds 0 [] none none e2 rfl .e
 refine⟨rs,by simpa using g1,ck rfl ?_⟩
 show iS rW [s .J,s .ai,none,none,none]=_
 unfold iS
 have hbt:(T.lst ((List.range ps.length).map fun i=>T.int ((i+1:Nat):Int)))=nt ((List.range' 0 ps.length).map (· + 1)):=by
  unfold nt
  rw [zaz,List.range_eq_range']
  rfl
 have h1:bF 1 [] (dy (.ay (.h cn 0))) (ai 0) aS (.a aR 0 1) (C1 .J c [] none none)=some (nt ((List.range' 0 ps.length).map (· + 1)),C1 .J c [] none none):=by
  rw [<- hbt]
  refine dk (ts:=(List.range ps.length).map fun (i:Nat)=>T.int i) (mH (.ac (by rw [C3,zah])) .e) rfl rfl ?_
  exact dQ (φ:=fun i:Nat=>T.int i) (g:=fun i:Nat=>T.int ((i+1:Nat):Int)) rfl (List.range ps.length) none [] (fun i hi=>aH rfl rfl (jI (b:=1))) (by rw [List.length_range];exact aW .j)
 have h2:lH (.e (ae 0) (ao rW (ag (ae 1) (.ay (.L (dy (ag (ao cn (bM 0)) au)) (.a aR 0 1)))))) (C1 .J c [] none none)=some ((List.zip ps ds).map fun p=>.tup [p.1.law,.int (p.2:Nat)],C1 .J c [] none none):=by
  unfold lH
  rw [cu (t:=.lst .ej) (u:=nt ds) rfl (aA _ (cu rfl h1) e1),zaa]
  show some (iQ .ej (ds.map fun d=>br d),_)=_
  rw [uo]
 rw [aO (show bX 2 au [s .J,s .ai,none,none,none]=some (.nx (C1 .J c [] none none)) from rfl),aO (iH h2 g2)]
 rfl
abbrev NN:Addr:=58
abbrev gS:Addr:=337
abbrev dv:Addr:=372
abbrev cv:Addr:=412
abbrev bS:Addr:=452
abbrev bW:Addr:=488
abbrev dh:Addr:=528
abbrev eu:Addr:=599
def Pt.obj:Pt->T
 | .inp n=>.obj dv ["name"] [tx n]
 | .cell n w=>.obj cv ["name","source"] [tx n,tx w]
 | .gain n q w=>.obj bS ["name","by","source"] [tx n,cF q,tx w]
 | .sum n ts=>.obj bW ["name","terms"] [tx n,.tup (ts.map gq)]
 | .out w=>.obj dh ["source"] [tx w]
def Pt.kind:Pt->List Nat
 | .inp _=>[105,110]
 | .cell _ _=>[99,101,108,108]
 | .gain _ _ _=>[103,97,105,110]
 | .sum _ _=>[115,117,109]
 | .out _=>[111,117,116]
def kU (t:Bool×List Nat):List Nat:=(if t.1 then [] else [45])++t.2
def Pt.args:Pt->List .ce
 | .inp n=>[n]
 | .cell n w=>[n,w]
 | .gain n q w=>[n,gN q.num q.den,w]
 | .sum n ts=>n::ts.map kU
 | .out w=>[w]
def Pt.row (p:Pt):List Nat:=jl 32 (p.kind::p.args)
theorem mQ:Str.ofString "in" = S [105,110]:=.c
theorem jG:Str.ofString "cell" = S [99,101,108,108]:=.c
theorem iP:Str.ofString "gain" = S [103,97,105,110]:=.c
theorem jT:Str.ofString "sum" = S [115,117,109]:=.c
theorem DD:Str.ofString "out" = S [111,117,116]:=.c
theorem Po:Str.ofString "in " = S [105,110,32]:=.c
theorem Kl:Str.ofString "cell " = S [99,101,108,108,32]:=.c
theorem DC:Str.ofString "gain " = S [103,97,105,110,32]:=.c
theorem MX:Str.ofString "sum " = S [115,117,109,32]:=.c
theorem MW:Str.ofString "out " = S [111,117,116,32]:=.c
theorem yw:Str.ofString " " = S [32]:=.c
theorem Pm:Str.ofString " -" = S [32,45]:=.c
theorem Pp:Str.ofString "\n" = S [10]:=.c
theorem K1 (p:Pt):bz p.law (.j 0)=some (tx p.kind):=by
 cases p
 ·exact congrArg .fj mQ
 ·exact congrArg .fj jG
 ·exact congrArg .fj iP
 ·exact congrArg .fj jT
 ·exact congrArg .fj DD
theorem sE (p:Pt):nh p.kind:=by
 intro c hc
 cases p<;>simp only [Pt.kind,List.mem_cons,List.not_mem_nil,or_false] at hc<;>omega
theorem bO {τ:aD}{i:Nat}{p:Pt}{k:String}{l:.I}(h:τ[i]? = some .a0)(hk:Str.ofString k=S l)(hl:nh l):cw (ar eJ (.a bz i 0) (fC .fq)) τ=some (decide (p.kind=l),τ):=by
 rw [hk]
 exact fF (aH (aH (uf h) rfl (K1 p)) rfl (Gf (sE p) hl))
theorem rB (l:.I)(h:l.all (fun c=>decide (c<128))=true):nh l:=fun c hc=>of_decide_eq_true (List.all_eq_true.mp h c hc)
theorem n5:nh [105,110]:=rB _ rfl
theorem lA:nh [99,101,108,108]:=rB _ rfl
theorem ji:nh [103,97,105,110]:=rB _ rfl
theorem lB:nh [115,117,109]:=rB _ rfl
theorem Kv:nh [111,117,116]:=rB _ rfl
theorem yl {q:Rat}(h:Px q):(gN q.num q.den).length≤6:=by
 have h1:=fR 1 q.num.natAbs (by have:=h.1;omega)
 have h2:=fR 1 q.den (by have:=h.2;omega)
 unfold gN
 rw [zai,zai]
 split<;>split<;>simp<;>omega
theorem Pt.len_args:∀{p:Pt},p.Ok->p.args.length≤5/\∀a∈p.args,a.length≤9
 | .inp n,h=>⟨zag rfl,fun a ha=>by rw [zac.mp ha];have:=h.2.1;omega⟩
 | .cell n w,h=>⟨zag rfl,fun a ha=>by
  rcases zan.mp ha with rfl | ha
  ·have:=h.1.2.1;omega
  ·rw [zac.mp ha];have:=h.2.2.1;omega⟩
 | .gain n q w,h=>⟨zag rfl,fun a ha=>by
  rcases zan.mp ha with rfl | ha
  ·have:=h.1.2.1;omega
  ·rcases zan.mp ha with rfl | ha
   ·have:=yl h.2.2;omega
   ·rw [zac.mp ha];have:=h.2.1.2.1;omega⟩
 | .sum n ts,h=>⟨by simp only [Pt.args,List.length_cons,List.length_map];have:=h.2.1;omega,fun a ha=>by
  rcases zan.mp ha with rfl | ha
  ·have:=h.1.2.1;omega
  ·obtain⟨t,ht,rfl⟩:=zao.mp ha
   have:=(h.2.2 t ht).2.1
   unfold kU
   split<;>simp<;>omega⟩
 | .out w,h=>⟨zag rfl,fun a ha=>by rw [zac.mp ha];have:=h.2.1;omega⟩
theorem BF (c:Nat):∀ps:List .ce,(jl c ps).length≤nY ps+ps.length
 |[]=>za6 _
 |[p]=>by simp [jl,nY]
 |p::q::r=>by
  have:=BF c (q::r)
  rw [ko,zai,zaj]
  simp only [nY,List.map_cons,List.sum_cons,List.length_cons] at this ⊢
  omega
theorem Pt.row_len {p:Pt}(h:p.Ok):p.row.length≤60/\nY (p.kind::p.args)≤49:=by
 have h1:=Pt.len_args h
 have h2:=oZ (m:=9) h1.2
 have h3:=BF 32 (p.kind::p.args)
 have h4:p.kind.length≤4:=by cases p<;>exact zag rfl
 have h5:nY (p.kind::p.args)=p.kind.length+nY p.args:=by simp [nY]
 rw [zaj] at h3
 have h6:p.args.length*9≤5*9:=Nat.mul_le_mul_right 9 h1.1
 unfold Pt.row
 omega
abbrev Kz:List T->Option T:=cg 1 1 (jY NY)
theorem n6 {f g:FE}{τ:aD}{a b:.I}(h:f τ=some (tx a,τ))(h':g τ=some (tx b,τ))(hl:a.length+b.length≤1000):ar aR f g τ=some (tx (a++b),τ):=aH h h' (Eg hl)
theorem dO {k:String}{l:.I}(hk:Str.ofString k=S l)(τ:aD):fC .fq τ=some (tx l,τ):=by rw [hk];rfl
theorem Kb (t:Bool×List Nat):(if t.1 then [32] else [32,45])++t.2=32::kU t:=by
 unfold kU
 cases t.1<;>rfl
theorem xJ (c:Nat):∀(p:.I) (ps:.U),jl c (p::ps)=p++(ps.map (c::·)).flatten
 |p,[]=>by simp [jl]
 |p,q::r=>by rw [ko,xJ c q r];simp
theorem Cy {p:Pt}(h:p.Ok):Kz [p.law]=some (tx p.row):=by
 have hl:=Pt.row_len h
 refine ck rfl ?_
 show jY NY [s p.law]=_
 unfold jY
 by_cases hg:p.kind=[103,97,105,110]
 ·match p,hg,h with
  | .gain n q w,_,h =>
   have hn:=h.1.2.1
   have hw:=h.2.1.2.1
   have hs:=yl h.2.2
   have hf:ao NY (.ay .ds) [s (Pt.gain n q w).law]=some (tx (gN q.num q.den),[s (Pt.gain n q w).law]):=aA _ (bJ .Z) (Pr (a:=q.num) (b:=q.den) (zay h.2.2.1 .c) (zay h.2.2.2 .c))
   unfold aF
   rw [nC .eD,bR (n6 (n6 (n6 (n6 (n6 (dO DC _) .Z .j) (dO yw _) .j) hf .j) (dO yw _) .j) .Z .j)]
   show some (R.rt (tx _))=some (R.rt (tx _))
   congr 3
   simp [Pt.row,Pt.kind,Pt.args,jl]
 ·rw [aO (cH (by rw [bO rfl iP ji,decide_eq_false hg]))]
  by_cases hu:p.kind=[115,117,109]
  ·match p,hu,h with
   | .sum n ts,_,h =>
    have hn:=h.1.2.1
    have hk:=h.2.1
    have hc:bF 2 [] (aZ .ds) .a1 aS .bw [s (Pt.sum n ts).law]=some (.lst ((ts.map kU).map fun w=>tx (32::w)),[s (Pt.sum n ts).law]):=by
     refine dk (ts:=ts.map gq) rfl rfl rfl ?_
     rw [zaz,show (ts.map ((fun w=>tx (32::w)) ∘ kU))=[]++ts.map fun t=>tx (32::kU t) from rfl]
     refine iF (φ:=fun t:Bool×List Nat=>T.int (lu t.1)) (ψ:=fun t=>tx t.2) rfl _ _ _ _ (fun t ht=>?_) .a9
     have hw:=(h.2.2 t ht).2.1
     have e1:ar bz (eR (.e (fC (.str " -")) .dE)) (.m gg (ar Bm (ae 0) (az 0))) .fD=some (tx (if t.1 then [32] else [32,45]),.fD):=by
      refine aH (lO (ts:=[tx [32,45],tx [32]]) (cu (dO Pm _) (dO yw _)) .ef) (aA [.bl (decide (lu t.1>0))] (bJ .Z) (t:=.int (if t.1 then 1 else 0)) ?_) ?_
      ·cases t.1<;>rfl
      ·cases t.1<;>rfl
     rw [<- Kb]
     exact n6 e1 rfl (by split<;>simp<;>omega)
    have hj:=CY (ls:=(ts.map kU).map (32::·)) (by
     refine Nat.le_trans (oZ (m:=10) fun l hl=>?_) .j
     obtain⟨x,hx,rfl⟩:=zao.mp hl
     obtain⟨t,ht,rfl⟩:=zao.mp hx
     have hw:=(h.2.2 t ht).2.1
     unfold kU
     split<;>simp<;>omega)
    rw [zaz] at hj
    have hfl:(((ts.map kU).map (32::·)).flatten).length≤900:=by
     have:=xJ 32 n (ts.map kU)
     have h2:=hl.1
     rw [Pt.row,Pt.args,ko,this] at h2
     simp only [List.length_append,List.length_cons] at h2
     omega
    have hj2:ar cX (fC .dW) (bF 2 [] (aZ .ds) .a1 aS .bw) [s (Pt.sum n ts).law]=some (tx (((ts.map kU).map (32::·)).flatten),[s (Pt.sum n ts).law]):=aH rfl hc hj
    unfold aF
    rw [nC .dg,bR (n6 (n6 (dO MX _) .Z .j) hj2 (by simp only [List.length_append,List.length_cons,List.length_nil];omega))]
    show some (R.rt (tx _))=some (R.rt (tx _))
    congr 3
    rw [Pt.row,Pt.args,ko,xJ]
    simp [Pt.kind]
  ·rw [aO (cH .fB)]
   have hp:p.law=.tup ((p.kind::p.args).map tx):=by
    cases p with
    |inp n=>exact congrArg (fun x=>T.tup [.str x,tx n]) mQ
    |cell n w=>exact congrArg (fun x=>T.tup [.str x,tx n,tx w]) jG
    |gain n q w=>exact absurd rfl hg
    |sum n ts=>exact absurd rfl hu
    |out w=>exact congrArg (fun x=>T.tup [.str x,tx w]) DD
   rw [bR (aH (dO yw _) (show ae 0 [s p.law]=some (.tup ((p.kind::p.args).map tx),[s p.law]) by rw [<- hp];rfl) (LP 32 (by have:=(Pt.len_args h).1;rw [zaj];omega)))]
   rfl
theorem CS {l:.I}(h:NumText.AllDigits l)(hn:l≠[])(hl:l.length≤600):gg [tx l]=some (.j (NumText.digitsVal l:Nat)):=by
 show (if (S l).length≤640 then (PySem.intText? (S l)).map T.int else none)=_
 rw [cj,if_pos .e,PySem.intText_digits (by rw [eh];exact h) (by rw [eh];exact hn) (by rw [cj];omega),eh]
 rfl
theorem Ji {l:.I}(h:NumText.AllDigits l)(hn:l≠[])(hl:l.length≤600):gg [tx (45::l)]=some (.j (-(NumText.digitsVal l:Nat))):=by
 show (if (S (45::l)).length≤640 then (PySem.intText? (S (45::l))).map T.int else none)=_
 rw [cj,if_pos .j,PySem.intText_neg (cs:=l) (by rw [eh]) h hn (by rw [cj];simp;omega)]
 rfl
theorem Gz {n:Nat}(h:n<10^30):Ou (ds n)=true:=Jk.mpr ⟨⟨yW n,fR 29 n h⟩,fX n⟩
theorem M0 {l:.I}(h:l.length≤1000):Ny (tx l)=some (!decide (l=[])):=by
 show (.ax (((S l).length:Int) != 0))=_
 rw [cj,if_pos (aW h)]
 cases l with
 |nil=>rfl
 |cons c r =>
  rw [decide_eq_false .h]
  congr 1
noncomputable abbrev NX:List T->Option T:=cg 5 1 (iV Nd Nf Nk)
def sgn (a:Int):List Nat:=if a<0 then [45] else []
theorem Dl (a:Int):(sgn a).length≤1:=by unfold sgn;split<;>decide
theorem J5 {a:Int}(ha:a.natAbs≤99):su (tx .ao) (tx [45])=some (tx (ds a.natAbs)):=by
 have hd:=fX a.natAbs
 have h1:=fR 1 a.natAbs .e
 have h2:=Dl a
 show (if (S .ao).length≤sizeLine then some (T.str (Txt.removeprefix (S .ao) (S [45]))) else none)=_
 rw [if_pos (by rw [cj,zai];exact aW .e)]
 unfold sgn
 by_cases h:a<0
 ·rw [if_pos h,List.singleton_append,wc]
 ·rw [if_neg h,zbf,wd (fun e=>?_)]
  have:=hd 45 (List.mem_of_mem_head? (by rw [e];rfl))
  omega
theorem Jj {a:Int}(ha:a.natAbs≤99):gg [tx .ao]=some (.j a):=by
 have hl:=fR 1 a.natAbs .e
 unfold sgn
 by_cases h:a<0
 ·rw [if_pos h,List.singleton_append,Ji (fX _) (yW _) .e,Bf]
  congr 2
  omega
 ·rw [if_neg h,zbf,CS (fX _) (yW _) .e,Bf]
  congr 2
  omega
theorem HH (a:Int)(c:Nat)(hc:c∈sgn a++ds a.natAbs):c=45\/(48≤c/\c≤57):=by
 rcases zaB.mp hc with h | h
 ·unfold sgn at h
  split at h
  ·exact .inl (zac.mp h)
  ·cases h
 ·exact .inr (fX _ c h)
theorem ym (a:Int)(b:Nat):gN a b=.ao++(if b=1 then [] else 47::ds b):=by
 unfold gN sgn
 rw [zaO]
theorem Ds (a:Int)(b:Nat):∀c∈gN a b,c=45\/c=47\/(48≤c/\c≤57):=fun c hc=>by
 rw [ym] at hc
 rcases zaB.mp hc with h | h
 ·rcases HH a c h with h | h
  ·exact .inl h
  ·exact .inr (.inr h)
 ·split at h
  ·cases h
  ·rcases zan.mp h with h | h
   ·exact .inr (.inl h)
   ·exact .inr (.inr (fX _ c h))
theorem ee {f:FE}{τ τ':aD}{t:T}{b:Bool}(h:f τ=some (t,τ'))(hb:Ny t=some b):cq f τ=some (b,τ'):=by
 unfold cq
 rw [h,zaa,hb]
 rfl
theorem ng {c:FT}{τ τ':aD}{b:Bool}(h:c τ=some (b,τ')):iG c τ=some (!b,τ'):=by
 unfold iG
 rw [h]
 rfl
theorem yX {n:Nat}(h:n≤99):(ds n).length≤2:=fR 1 n .e
theorem OY {q:Rat}(h:Px q):NX [tx (gN q.num q.den)]=some (cF q):=by
 obtain⟨ha,hb⟩:=h
 have hb0:0<q.den:=zbQ q.den_nz
 have hg:Int.gcd q.num q.den=1:=q.reduced
 show _=some (yK q.num q.den)
 generalize q.num=a at *
 generalize q.den=b at *
 have hlb:=yX (n:=b) .e
 have hla:=yX ha
 have hls:=Dl a
 have no:47∉sgn a++ds a.natAbs:=fun z=>by
  have:=HH a 47 z
  omega
 have hlw:(gN a b).length≤6:=by
  rw [ym]
  split<;>simp<;>omega
 have bd:(10:Nat)^30<10^72:=.c
 have hfa:=KL (ds a.natAbs) .e
 rw [Gz (zay ha .c)] at hfa
 have hfb:=KL (ds b) .e
 rw [Gz (zay hb .c)] at hfb
 have hif:=Oq (a:=a) (b:=b) (zay ha (zaR .f mO)) (zay hb (zaR .f mO))
 rw [decide_eq_true (show 1≤b from hb0),decide_eq_true hg] at hif
 have hsf:=K7 (a:=a) (b:=b) (zay ha .c) (zay hb .c)
 have hpt:∃m w,qh (tx (gN a b)) (tx [47])=some (.tup [tx .ao,tx m,tx w])/\m.length≤1/\(if m=[] then [49] else w)=ds b:=by
  have e:qh (tx (gN a b)) (tx [47])=some (T.tup [.str (Txt.partition (S (gN a b)) (S [47])).1,.str (Txt.partition (S (gN a b)) (S [47])).2.1,.str (Txt.partition (S (gN a b)) (S [47])).2.2]):=if_pos ⟨by rw [cj];rfl,by rw [cj];exact aW .e⟩
  rw [e,ym]
  by_cases h1:b=1
  ·rw [if_pos h1,zax,JL no]
   exact⟨[],[],rfl,.f,by rw [h1,qe .f];rfl⟩
  ·rw [if_neg h1,Hg no]
   exact⟨[47],ds b,rfl,.f,rfl⟩
 obtain⟨m,w,e1,hm,e2⟩:=hpt
 refine ck rfl ?_
 show iV Nd Nf Nk .dA=_
 unfold iV
 have i1:ao bN (.c 0 (fC (.ty "str"))) .dA=some (.bl true,.dA):=aA _ .b1 rfl
 rw [aO (cH (ng (ee i1 rfl))),aO (show kj (.q qh (fC (.str "/"))) (bK (ay (ai 1) (.a 2 3))) .dA=some (.nx .dM) by
  unfold kj
  rw [aH rfl (dO ua _) e1]
  rfl)]
 have h3:bZ (iG (cq (ae 2))) (bA 3 (fC (.str "1"))) bH .dM=some (.nx .V):=by
  have ht:=ng (ee (f:=ae 2) (τ:=.dM) rfl (M0 (l:=m) .e))
  rw [Bool.not_not] at ht
  by_cases h:m=[]
  ·rw [if_pos h] at e2
   rw [nC (by rw [ht,decide_eq_true h]),<- e2]
   exact bV (dO Pq _) rfl
  ·rw [if_neg h] at e2
   rw [cH (by rw [ht,decide_eq_false h]),e2]
 rw [aO h3]
 have c1:ao Nd (.ay (ar su (ae 1) .cM)) .V=some (.bl true,.V):=aA _ (bJ (aH rfl (dO pe _) (J5 ha))) hfa
 have c2:ao Nd (bM 3) .V=some (.bl true,.V):=aA _ .bf hfb
 rw [aO (cH (la (ng (ee c1 rfl)) (ng (ee c2 rfl))))]
 have c3:cZ (.e (ao gg (bM 1)) (ao gg (bM 3))) .V=some (yK a b,.V):=gu (cu (.ac (Jj ha)) (.ac (by rw [CS (fX _) (yW _) .e,Bf])))
 rw [aO (bV (τ2:=.aS) c3 rfl)]
 have c4:ao Nf (bM 4) .aS=some (.bl true,.aS):=aA _ .bf hif
 have av:nh (gN a b):=fun c hc=>by have:=Ds a b c hc;omega
 have c5:cw (ar qg (.h Nk 4) (ae 0)) .aS=some (false,.aS):=fF (aH (.ac hsf) rfl (by rw [Gn av av,decide_eq_true rfl];rfl))
 rw [aO (cH (la (ng (ee c4 rfl)) c5))]
 rfl
theorem HR (l:.I):Ip (tx (45::l)) (tx [45])=some .bK:=by
 show some (T.bl (Txt.startswith (S (45::l)) (S [45])))=_
 rw [Txt.startswith.eq_1,cj,cj,StrLaws.subAt_eq,eh,eh,cj]
 simp
theorem HS {l:.I}(h:l.head?≠some 45):Ip (tx l) (tx [45])=some .Q:=by
 show some (T.bl (Txt.startswith (S l) (S [45])))=_
 rw [Txt.startswith.eq_1,cj,cj,StrLaws.subAt_eq,eh,eh,cj]
 cases l with
 |nil=>simp
 |cons c r =>
  simp at h
  simp [h]
theorem Jg:∀i:Fin 26,(match qw (.str ⟨#[97+i.val]⟩) .y with | some (.bl b)=>b | _=>false)=true:=.c
theorem LK {c:Nat}(h:97≤c/\c≤122):qw (.str ⟨#[c]⟩) .y=some .bK:=by
 have:=Jg ⟨c-97,.e⟩
 rw [show 97+(⟨c-97,.e⟩:Fin 26).val=c by show 97+(c-97)=c;omega] at this
 split at this
 ·next b e=>rw [e,this]
 ·cases this
theorem all_true {α:Type}{φ:α->T}:∀l:List α,(∀x∈l,φ x=.bl true)->mP [.lst (l.map φ)]=some .bK:=fun l h=>by
 have e:∀l:List α,(∀x∈l,φ x=.bl true)->boolsOf (l.map φ)=some (l.map fun _=>true):=by
  intro l
  induction l with
  |nil=>intro _;rfl
  |cons a l ih =>
   intro h
   rw [zaf,h a zad]
   show (boolsOf (l.map φ)).bind _=_
   rw [ih fun x hx=>h x (zae _ hx)]
   rfl
 show (boolsOf (l.map φ)).bind _=_
 rw [e l h]
 show some (T.bl ((l.map fun _=>true).all id))=_
 rw [zb1]
 simp
abbrev NV:List T->Option T:=cg 1 1 mC
theorem OG {l:.I}(h:pY l):NV [tx l]=some .bK:=by
 have h0:1≤l.length:=by
  have:=h.1
  cases l with
  |nil=>exact absurd rfl this
  |cons a b=>simp
 refine ck rfl ?_
 show mC .d7=_
 unfold mC
 have hlen:ao cn (bM 0) .d7=some (.int (l.length:Nat),.d7):=aA _ .bf (K2 (by have:=h.2.1;omega))
 have hc:bF 1 [] (so (ae 0)) (ai 0) aS (.q qw (fC .y)) .d7=some (.lst (l.map fun _=>T.bl true),.d7):=by
  refine dk (ts:=l.map fun c=>T.str ⟨#[c]⟩) (show some (jF (S l),_)=_ by rw [Dw]) rfl rfl ?_
  exact dQ (g:=fun _=>T.bl true) rfl l none [] (fun c hc=>aH rfl rfl (LK (h.2.2 c hc))) (by simpa using aW (by have:=h.2.1;omega))
 exact bR (by rw [jV (Cn hlen rfl .e (by have:=h.2.1;omega)),aA _ (bJ hc) (all_true (φ:=fun _=>T.bl true) l fun _ _=>rfl)])
abbrev Io:List T->Option T:=cg 2 2 (iU NV)
theorem yO {ls:.U}{n:Nat}(hn:ls.length=n)(hl:n≤100)(h:∀l∈ls,pY l):Io [bY ls,br n]=some .bK:=by
 refine ck rfl ?_
 show iU NV [s (bY ls),s (br n)]=_
 unfold iU
 have hlen:ar eJ (.h cn 0) (ae 1) [s (bY ls),s (br n)]=some (.bl true,[s (bY ls),s (br n)]):=aH (.ac kT) rfl (by rw [Lv,hn,decide_eq_true rfl])
 have hc:bF 1 [] .eQ (ai 0) aS (.h NV 0) [s (bY ls),s (br n)]=some (.lst (ls.map fun _=>T.bl true),[s (bY ls),s (br n)]):=by
  refine dk (ts:=ls.map tx) rfl rfl rfl ?_
  exact dQ (g:=fun _=>T.bl true) rfl ls none [] (fun l hl=>aA _ .bf (OG (h l hl))) .a9
 exact bR (by rw [jV hlen,aA _ (bJ hc) (all_true (φ:=fun _=>T.bl true) ls fun _ _=>rfl)])
abbrev Nr:List T->Option rh:=dI 2 1 gc
abbrev Np:List T->Option rh:=dI 3 2 eW
abbrev Nq:List T->Option rh:=dI 4 3 eX
abbrev Nu:List T->Option rh:=dI 3 2 fM
abbrev Nt:List T->Option rh:=dI 2 1 fL
theorem QW:¬ (Str.ofString "source")∈([]++[Str.ofString "name"]:List Str):=.c
theorem QX:¬ (Str.ofString "by")∈([]++[Str.ofString "name"]:List Str):=.c
theorem QY:¬ (Str.ofString "source")∈([]++[Str.ofString "name"]++[Str.ofString "by"]:List Str):=.c
theorem QZ:¬ (Str.ofString "terms")∈([]++[Str.ofString "name"]:List Str):=.c
theorem KS (t:T):Nr [t]=some ((["name"]:List Str),[t]):=vA ⟨rfl,fun x=>by
 show gc x [fQ (.ptr x),fQ t] [] []=_
 unfold gc
 rw [fT (t:=t) rfl rfl ⟨zap,.f⟩ rfl]
 rfl⟩
theorem KQ (t u:T):Np [t,u]=some ((["name","source"]:List Str),[t,u]):=vA ⟨rfl,fun x=>by
 show eW x [fQ (.ptr x),fQ t,fQ u] [] []=_
 unfold eW
 rw [fT (t:=t) rfl rfl ⟨zap,.f⟩ rfl,fT (t:=u) rfl rfl ⟨QW,zag rfl⟩ rfl]
 rfl⟩
theorem KR (t u v:T):Nq [t,u,v]=some ((["name","by","source"]:List Str),[t,u,v]):=vA ⟨rfl,fun x=>by
 show eX x [fQ (.ptr x),fQ t,fQ u,fQ v] [] []=_
 unfold eX
 rw [fT (t:=t) rfl rfl ⟨zap,.f⟩ rfl,fT (t:=u) rfl rfl ⟨QX,zag rfl⟩ rfl,fT (t:=v) rfl rfl ⟨QY,zag rfl⟩ rfl]
 rfl⟩
theorem KW (t u:T):Nu [t,u]=some ((["name","terms"]:List Str),[t,u]):=vA ⟨rfl,fun x=>by
 show fM x [fQ (.ptr x),fQ t,fQ u] [] []=_
 unfold fM
 rw [fT (t:=t) rfl rfl ⟨zap,.f⟩ rfl,fT (t:=u) rfl rfl ⟨QZ,zag rfl⟩ rfl]
 rfl⟩
theorem KU (t:T):Nt [t]=some ((["source"]:List Str),[t]):=vA ⟨rfl,fun x=>by
 show fL x [fQ (.ptr x),fQ t] [] []=_
 unfold fL
 rw [fT (t:=t) rfl rfl ⟨zap,.f⟩ rfl]
 rfl⟩
theorem vN {c:FT}{f g:FE}{τ τ':aD}(h:c τ=some (true,τ')):vH c f g τ=f τ':=by
 unfold vH
 rw [h]
 rfl
theorem Gy {c:FT}{f g:FE}{τ τ':aD}(h:c τ=some (false,τ')):vH c f g τ=g τ':=by
 unfold vH
 rw [h]
 rfl
theorem Ck {c d:FT}{τ τ':aD}(h:c τ=some (true,τ')):ki c d τ=d τ':=by
 unfold ki
 rw [h]
 rfl
theorem Kw {c d:FT}{τ τ':aD}(h:c τ=some (false,τ')):ki c d τ=some (false,τ'):=by
 unfold ki
 rw [h]
 rfl
theorem M1 {fb:FS}{fx:FX}{fh:Kq}{τ:aD}{r:R}(h:fb τ=some r):FN fb fx fh τ=some r:=by
 unfold FN
 rw [h]
noncomputable abbrev PJ:List T->Option T:=cg 2 1 (gP NN NX)
theorem N6 {q:Rat}(h:Px q):PJ [tx (gN q.num q.den)]=some (cF q):=by
 refine ck rfl ?_
 show gP NN NX [s .aI,none]=_
 unfold gP
 have h1:ao NX (bM 0) [s .aI,none]=some (cF q,[s .aI,none]):=aA _ .bf (OY h)
 rw [aO (M1 (bV (τ2:=[s .aI,s (cF q)]) h1 rfl))]
 have c1:cw (ar uz (.m rT .b8) (az 99)) [s .aI,s (cF q)]=some (true,[s .aI,s (cF q)]):=fF (aH (aA _ (bJ (t:=.int q.num) .Z) (rV _)) rfl (by
  show some (T.bl (decide ((q.num.natAbs:Int)≤99)))=_
  rw [decide_eq_true (by have:=h.1;omega)]))
 have c2:cw (ar uz (.h 1) (az 12)) [s .aI,s (cF q)]=some (true,[s .aI,s (cF q)]):=fF (aH (a:=.int (q.den:Int)) .Z rfl (by
  show some (T.bl (decide ((q.den:Int)≤12)))=_
  rw [decide_eq_true (by have:=h.2;omega)]))
 exact bR (by rw [vN (by rw [Ck c1,c2])];rfl)
abbrev PN:List T->Option T:=cg 4 3 (iW bS PJ Io Nq)
theorem OZ {n w:.I}{q:Rat}(h:(Pt.gain n q w).Ok):PN [tx n,tx (gN q.num q.den),tx w]=some (Pt.gain n q w).obj:=by
 refine ck rfl ?_
 show iW bS PJ Io Nq [s (tx n),s .aI,s (tx w),none]=_
 unfold iW
 rw [aO (bV (τ2:=.cZ) (.ac (N6 h.2.2)) rfl)]
 have c1:cw (ar wZ (ae 3) (fC .non)) .cZ=some (true,.cZ):=rfl
 have c2:cq (ao Io (.e (eR (.o 0 2)) (az 2))) .cZ=some (true,.cZ):=ee (aA _ (cu (t:=bY [n,w]) (lO .b1 .ef) rfl) (yO (n:=2) rfl .f fun l hl=>by
  rcases zan.mp hl with rfl | hl
  ·exact h.1
  ·rw [zac.mp hl];exact h.2.1)) rfl
 exact bR (by rw [vN (by rw [Ck c1,c2]),sM (A0 rfl rfl rfl) (KR _ _ _)];rfl)
abbrev PR:List T->Option T:=cg 3 2 (kc bW Io Nu)
theorem EU {t:Bool×List Nat}(h:pY t.2):Ip (tx (kU t)) (tx [45])=some (.bl (!t.1))/\su (tx (kU t)) (tx [45])=some (tx t.2)/\(kU t).length≤9:=by
 have hl:=h.2.1
 have hh:t.2.head?≠some 45:=fun e=>by
  have:=h.2.2 45 (List.mem_of_mem_head? (by rw [e];rfl))
  omega
 have rm:∀(l m:.I),l.length≤900->Txt.removeprefix (S l) (S [45])=S m->su (tx l) (tx [45])=some (tx m):=fun l m hl e=>by
  show (.ax (T.str (Txt.removeprefix (S l) (S [45]))))=_
  rw [if_pos (by rw [cj];exact aW .e),e]
 obtain⟨b,l⟩:=t
 have hl9:l.length≤8:=hl
 cases b with
 |true=>exact⟨HS hh,rm _ _ (by simp [kU];omega) (wd hh),by simp [kU];omega⟩
 |false=>exact⟨HR l,rm _ _ (by simp [kU];omega) (wc l),by simp [kU];omega⟩
theorem O4 {n:.I}{ts:.d6}(h:(Pt.sum n ts).Ok):PR [tx n,bY (ts.map kU)]=some (Pt.sum n ts).obj:=by
 have hk:=h.2.1
 refine ck rfl ?_
 show kc bW Io Nu [s (tx n),s (bY (ts.map kU)),none]=_
 unfold kc
 have hc:bF 1 [] (aZ (ae 1)) (ai 0) aS (cZ (.e (vH (cq (.q Ip .cM)) .d1 (az 1)) (.q su .cM))) [s (tx n),s (bY (ts.map kU)),none]=some (.lst (ts.map gq),[s (tx n),s (bY (ts.map kU)),none]):=by
  refine dk (ts:=ts.map fun t=>tx (kU t)) (show some ((ts.map kU).map tx,_)=_ by rw [zaz];rfl) rfl rfl ?_
  rw [show ts.map gq=[]++ts.map gq from rfl]
  refine dQ (φ:=fun t:Bool×List Nat=>tx (kU t)) rfl ts none [] (fun t ht=>?_) .a9
  obtain⟨w1,w2,w3⟩:=EU (h.2.2 t ht)
  refine gu (cu (t:=.int (lu t.1)) (u:=tx t.2) ?_ (aH rfl (dO pe _) w2))
  have c:=ee (f:=ar Ip (ae 0) .cM) (τ:=[s (tx (kU t))]) (aH rfl (dO pe _) w1) (b:=!t.1) (by cases t.1<;>rfl)
  cases ht:t.1 with
  |true =>
   rw [ht] at c
   exact (Gy c).trans rfl
  |false =>
   rw [ht] at c
   exact (vN c).trans rfl
 rw [aO (bV (τ2:=.bm) (aA _ (bJ hc) rfl) rfl)]
 have hc2:bF 2 [] (aZ (ae 2)) .a1 aS (ae 1) .bm=some (.lst (ts.map fun t=>tx t.2),.bm):=by
  refine dk (ts:=ts.map gq) rfl rfl rfl ?_
  exact iF (φ:=fun t:Bool×List Nat=>T.int (lu t.1)) (ψ:=fun t=>tx t.2) (g:=fun t=>tx t.2) rfl ts none none [] (fun t ht=>rfl) .a9
 have c2:cq (ao Io (.e (ar aR (eR (bM 0)) (bF 2 [] (aZ (ae 2)) .a1 aS (ae 1))) (.Q aR (ao cn (bM 2))))) .bm=some (true,.bm):=by
  refine ee (aA _ (cu (t:=bY (n::ts.map (·.2))) (u:=.int ((ts.length+1:Nat):Int)) (aH (lO .bf (Nat.le_of_ble_eq_true rfl)) hc2 ?_) (aH (aA [.tup (ts.map gq)] .bf (t:=.int (ts.length:Nat)) ?_) rfl (jI (b:=1)))) (yO (n:=ts.length+1) .h .e fun l hl=>?_)) rfl
  ·rw [oB (by rw [List.length_map];exact aW .j)]
   unfold bY
   rw [zaf,zaz]
   rfl
  ·show some (T.int ((ts.map gq).length:Nat))=_
   rw [zah]
  ·rcases zan.mp hl with rfl | hl
   ·exact h.1
   ·obtain⟨t,ht,rfl⟩:=zao.mp hl
    exact h.2.2 t ht
 exact bR (by rw [vN c2,sM .b1 (KW _ _)];rfl)
theorem Dx (c:Nat){ls:.U}(h0:ls≠[])(hf:∀l∈ls,c∉l)(h1:(jl c ls).length≤16777216)(h2:ls.length≤1000):hG (tx (jl c ls)) (tx [c])=some (bY ls):=by
 have e:Txt.split (S (jl c ls)) (S [c])=ls.map S:=by
  rw [<- BG,show S [c]=one c from rfl,AJ]
  exact BW (by simpa using h0) fun p hp=>by
   obtain⟨l,hl,rfl⟩:=zao.mp hp
   rw [A7]
   exact hf l hl
 show (if ((S [c]).length == 0)=false/\(S (jl c ls)).length≤sizeLine/\(Txt.split (S (jl c ls)) (S [c])).length≤sizeLine then some (T.lst ((Txt.split (S (jl c ls)) (S [c])).map T.str)) else none)=_
 rw [e,if_pos ⟨by rw [cj];rfl,by rw [cj];exact h1,by rw [zah];exact aW h2⟩,zaz]
 rfl
theorem Pt.vis:∀{p:Pt},p.Ok->∀l∈p.kind::p.args,∀c∈l,33≤c/\c<128:=by
 intro p h l hl c hc
 have nm:∀{n:.I},pY n->c∈n->33≤c/\c<128:=fun hn hc=>by have:=hn.2.2 c hc;omega
 rcases zan.mp hl with rfl | hl
 ·cases p<;>simp only [Pt.kind,List.mem_cons,List.not_mem_nil,or_false] at hc<;>omega
 ·match p,h with
  | .inp n,h=>rw [zac.mp hl] at hc;exact nm h hc
  | .cell n w,h =>
   rcases zan.mp hl with rfl | hl
   ·exact nm h.1 hc
   ·rw [zac.mp hl] at hc;exact nm h.2 hc
  | .gain n q w,h =>
   rcases zan.mp hl with rfl | hl
   ·exact nm h.1 hc
   ·rcases zan.mp hl with rfl | hl
    ·have:=Ds _ _ c hc
     omega
    ·rw [zac.mp hl] at hc;exact nm h.2.1 hc
  | .sum n ts,h =>
   rcases zan.mp hl with rfl | hl
   ·exact nm h.1 hc
   ·obtain⟨t,ht,rfl⟩:=zao.mp hl
    rcases zaB.mp hc with hc | hc
    ·split at hc
     ·cases hc
     ·have:=zac.mp hc
      omega
    ·exact nm (h.2.2 t ht) hc
  | .out w,h=>rw [zac.mp hl] at hc;exact nm h hc
theorem GD {c x:Nat}:∀{ls:.U},x∈jl c ls->x=c\/∃l∈ls,x∈l
 |[],h=>by cases h
 |[p],h=>.inr ⟨p,zac.mpr rfl,h⟩
 |p::q::r,h=>by
  rw [ko] at h
  rcases zaB.mp h with h | h
  ·exact .inr ⟨p,zad,h⟩
  ·rcases zan.mp h with h | h
   ·exact .inl h
   ·rcases GD h with h | ⟨l,hl,hx⟩
    ·exact .inl h
    ·exact .inr ⟨l,zae _ hl,hx⟩
theorem Pt.row_mem {p:Pt}(h:p.Ok){c:Nat}(hc:c∈p.row):32≤c/\c<128:=by
 rcases GD hc with rfl | ⟨l,hl,hx⟩
 ·omega
 ·have:=Pt.vis h l hl c hx
  omega
abbrev Nj:List T->Option T:=cg 3 1 (iX dv cv dh Io PN PR Nr Np Nt)
theorem Ij {p:Pt}{τ:aD}{k:String}{l:.I}(h:τ[1]? = some (s (tx p.kind)))(hk:Str.ofString k=S l)(hl:nh l):cw (ar eJ (ae 1) (fC .fq)) τ=some (decide (p.kind=l),τ):=
 fF (aH (uf h) (dO hk τ) (Gf (sE p) hl))
theorem ne_if {p:Pt}{τ:aD}{k:String}{l:.I}{c:FT}{t:FS}(h:τ[1]? = some (s (tx p.kind)))(hk:Str.ofString k=S l)(hl:nh l)(hn:p.kind≠l):bZ (ki (.u (ae 1) (fC .fq)) c) t bH τ=some (.nx τ):=cH (Kw (by rw [Ij h hk hl,decide_eq_false hn]))
theorem uj {p:Pt}{τ:aD}{k:String}{l:.I}{c:FT}{t:FS}(h:τ[1]? = some (s (tx p.kind)))(hk:Str.ofString k=S l)(hl:nh l)(hn:p.kind=l)(hc:c τ=some (true,τ)):bZ (ki (.u (ae 1) (fC .fq)) c) t bH τ=t τ:=nC (by rw [Ck (by rw [Ij h hk hl,decide_eq_true hn]),hc])
theorem jR {a b:FS}{τ:aD}{t:T}(h:a τ=some (.rt t)):aF a b τ=some (.rt t):=by
 unfold aF
 rw [h]
 rfl
theorem O3 {p:Pt}(h:p.Ok):Nj [tx p.row]=some p.obj:=by
 have hl:=Pt.row_len h
 have ha:=Pt.len_args h
 have hs:hG (tx p.row) (tx [32])=some (bY (p.kind::p.args)):=Dx 32 .h (fun l hl hc=>by have:=Pt.vis h l hl 32 hc;omega) (Nat.le_trans hl.1 .f) (by rw [List.length_cons];omega)
 refine ck rfl ?_
 show iX dv cv dh Io PN PR Nr Np Nt [s (tx p.row),none,none]=_
 unfold iX
 rw [aO (show kj (.q hG .dE) (w8 (.a 1 2)) [s (tx p.row),none,none]=some (.nx [s (tx p.row),s (tx p.kind),s (bY p.args)]) by
  unfold kj
  rw [aH rfl (dO yw _) hs]
  rfl)]
 clear hs
 have ix:∀(τ:aD) (i:Nat),τ[2]? = some (s (bY p.args))->i<p.args.length->ar bz (ae 2) (fC (br i)) τ=some (tx (p.args.getD i []),τ):=fun τ i h hi=>aH (uf h) rfl (yz hi)
 match p,h with
 | .inp n,h =>
  refine jR ?_
  rw [uj (p:=.inp n) rfl mQ n5 rfl (ee (aA _ .b1 (yO (ls:=[n]) (n:=1) rfl .f fun l hl=>by rw [zac.mp hl];exact h)) rfl)]
  exact bR (sM (bJ (ix _ 0 rfl .ef)) (KS _))
 | .cell n w,h =>
  rw [aO (ne_if (p:=.cell n w) rfl mQ n5 .b6)]
  refine jR ?_
  rw [uj (p:=.cell n w) rfl jG lA rfl (ee (aA _ .b1 (yO (ls:=[n,w]) (n:=2) rfl .f fun l hl=>by
   rcases zan.mp hl with rfl | hl
   ·exact h.1
   ·rw [zac.mp hl];exact h.2)) rfl)]
  exact bR (sM (cu (ix _ 0 rfl .ef) (ix _ 1 rfl .ef)) (KQ _ _))
 | .gain n q w,h =>
  rw [aO (ne_if (p:=.gain n q w) rfl mQ n5 .b6),aO (ne_if (p:=.gain n q w) rfl jG lA .b6)]
  refine jR ?_
  rw [uj (p:=.gain n q w) rfl iP ji rfl (fF (aH (.ac kT) rfl rfl))]
  exact bR (aA _ (A0 (ix _ 0 rfl .ef) (ix _ 1 rfl .ef) (ix _ 2 rfl .ef)) (OZ h))
 | .sum n ts,h =>
  have hk:=h.2.1
  rw [aO (ne_if (p:=.sum n ts) rfl mQ n5 .b6),aO (ne_if (p:=.sum n ts) rfl jG lA .b6),aO (ne_if (p:=.sum n ts) rfl iP ji .b6)]
  refine jR ?_
  rw [uj (p:=.sum n ts) rfl jT lB rfl (fF (Cn (b:=((ts.length+1:Nat):Int)) (c:=5) (aA _ .bf (by rw [kT];simp [Pt.args])) rfl .e .e))]
  refine bR (aA _ (cu (t:=tx n) (u:=bY (ts.map kU)) (ix _ 0 rfl (by simp [Pt.args])) ?_) (O4 h))
  unfold yJ dU fj
  rw [show ae 2 .a3=some (bY (Pt.sum n ts).args,.a3) from rfl,zaa]
  dsimp only
  rw [show az 1 .a3=some (.int ((1:Nat):Int),.a3) from rfl,zaa]
  dsimp only
  rw [zaa]
  dsimp only
  rw [zaa]
  show ((some (T.lst (rQ ((n::ts.map kU).map tx) (some ((1:Nat):Int)) none))).bind _:Option (T×aD))=_
  unfold rQ
  rw [HT.qW,HT.Aq,List.length_map,List.length_cons,Nat.min_eq_left .e,List.map_cons,List.drop_one,List.tail_cons,List.take_of_length_le .h]
  rfl
 | .out w,h =>
  rw [aO (ne_if (p:=.out w) rfl mQ n5 .b6),aO (ne_if (p:=.out w) rfl jG lA .b6),aO (ne_if (p:=.out w) rfl iP ji .b6),aO (ne_if (p:=.out w) rfl jT lB .b6)]
  refine jR ?_
  rw [uj (p:=.out w) rfl DD Kv rfl (ee (aA _ .b1 (yO (ls:=[w]) (n:=1) rfl .f fun l hl=>by rw [zac.mp hl];exact h)) rfl)]
  exact bR (sM (bJ (ix _ 0 rfl .ef)) (KU _))
abbrev Nh:List T->Option T:=cg 1 1 (iT Kz)
def textOf (ps:.bH):List Nat:=jl 10 (ps.map Pt.row)
theorem Ap {ps:.bH}(h:∀p∈ps,p.Ok)(hl:ps.length≤24):nY (ps.map Pt.row)+(ps.map Pt.row).length≤2000:=by
 have:=oZ (m:=60) (ls:=ps.map Pt.row) fun l hl=>by
  obtain⟨p,hp,rfl⟩:=zao.mp hl
  exact (Pt.row_len (h p hp)).1
 rw [zah] at this ⊢
 have h2:ps.length*60≤24*60:=Nat.mul_le_mul_right 60 hl
 omega
theorem IT {ps:.bH}(h:∀p∈ps,p.Ok)(hl:ps.length≤24):Nh [.lst .ej]=some .cy:=by
 refine ck rfl ?_
 show iT Kz [s .J]=_
 unfold iT
 have hc:bF 1 [] .eQ (ai 0) aS (.h Kz 0) [s .J]=some (bY (ps.map Pt.row),[s .J]):=by
  refine dk (ts:=ps.map Pt.law) rfl rfl rfl ?_
  rw [zaz,show ps.map (tx ∘ Pt.row)=[]++ps.map fun p=>tx p.row from rfl]
  exact dQ rfl ps none [] (fun p hp=>aA _ .bf (Cy (h p hp))) .a9
 have:=Ap h hl
 exact bR (aH (dO Pp _) hc (GF 10 .e))
abbrev IM:List T->Option T:=cg 5 1 (iq Nj)
def Qe:FS:=(aF (bA 4 (.h Nj 3)) (aF (bZ (cw (ar Nn (ae 4) (fC .non))) gD bH) (fS 1 (ae 4))))
theorem JA (p:Pt):Nn p.obj .non=some .Q:=by cases p<;>rfl
theorem Dh (t:T):∀(ps:.bH) (k:Nat) (ts:List T) (x2 x3 x4:.aW),(∀p∈ps,p.Ok)->ts.length+ps.length≤900->∃y2 y3 y4,cQ (bK (.a 2 3)) Qe (yI k (ps.map fun p=>tx p.row)) [s t,some (.own ts),x2,x3,x4]=some (.nx [s t,some (.own (ts++ps.map Pt.obj)),y2,y3,y4])
 |[],k,ts,x2,x3,x4,_,_=>⟨x2,x3,x4,by simp [cQ,yI]⟩
 |p::ps,k,ts,x2,x3,x4,h,hl=>by
  rw [zaj] at hl
  obtain⟨y2,y3,y4,h2⟩:=Dh t ps (k+1) (ts++[p.obj]) .aM (s (tx p.row)) (s p.obj) (fun x hx=>h x (zae _ hx)) .bB
  refine⟨y2,y3,y4,?_⟩
  have hB:Qe [s t,some (.own ts),s (br k),s (tx p.row),x4]=some (.nx [s t,some (.own (ts++[p.obj])),s (br k),s (tx p.row),s p.obj]):=by
   unfold Qe
   rw [aO (bV (τ2:=[s t,some (.own ts),s (br k),s (tx p.row),s p.obj]) (.ac (O3 (h p zad))) rfl),aO (cH (fF (.s (JA p))))]
   exact pZ (ts:=ts) rfl rfl (bT .e)
  rw [zaf,yI,cK rfl hB,h2]
  simp
theorem MH {ps:.bH}(h0:ps≠[])(h:∀p∈ps,p.Ok)(hl:ps.length≤24):IM [tx (textOf ps)]=some .D:=by
 obtain⟨y2,y3,y4,h2⟩:=Dh .cy ps 0 [] none none none h .j
 have hr:=Ap h hl
 have hs:hG .cy (tx [10])=some (bY (ps.map Pt.row)):=Dx 10 (by simpa using h0) (fun l hl hc=>by
  obtain⟨p,hp,rfl⟩:=zao.mp hl
  have:=Pt.row_mem (h p hp) hc
  omega) (by have:=BF 10 (ps.map Pt.row);omega) (by rw [zah];omega)
 refine ck rfl ?_
 show iq Nj [s .cy,none,none,none,none]=_
 have e:iq Nj=aF (bX 1 au) (aF (fz (km (.ay (.q hG (fC (.str "\n"))))) (bK (.a 2 3)) Qe) (bj (ae 1))) := rfl
 rw [e, aO (show bX 1 au [s .cy, none, none, none, none] = some (.nx .fA) from rfl)]
 have hf : km (.ay (.q hG (fC (.str "\n")))) .fA = some (yI 0 (ps.map fun p => tx p.row), .fA) := by
  unfold km
  rw [bJ (aH rfl (dO Pp _) hs), zaa]
  show some (yI 0 ((ps.map Pt.row).map tx), _) = _
  rw [zaz]
  rfl
 rw [aO (iH hf h2)]
 rfl
def Pt.cls : Pt->Addr
 | .inp _ => dv
 | .cell _ _ => cv
 | .gain _ _ _ => bS
 | .sum _ _ => bW
 | .out _ => dh
abbrev rY : List T->Option T := cg 1 1 mW
abbrev wO : List T->Option T := cg 1 1 (mS cv bS dh)
abbrev wQ : List T->Option T := cg 1 1 (mU cv bS dh)
abbrev wU : List T->Option T := cg 1 1 (ic bW)
abbrev wR : List T->Option T := cg 1 1 (oa cv bS dh)
noncomputable abbrev Iz : List .aN := [(gS, rY), (dv, rY), (cv, wO), (bS, wQ), (bW, wU), (dh, wR)]
theorem Q3 : ¬ (Str.ofString "wants")∈(.av : List Str) := by decide +kernel
theorem Q1 : ¬ (Str.ofString "row")∈(.av : List Str) := by decide +kernel
theorem Q2 : ¬ (Str.ofString "tells")∈(.av : List Str) := by decide +kernel
def Pt.flds : Pt->List Str
 | .inp _ => ["name"]
 | .cell _ _ => ["name","source"]
 | .gain _ _ _ => ["name","by","source"]
 | .sum _ _ => ["name","terms"]
 | .out _ => ["source"]
def Pt.vals : Pt->List T
 | .inp n => [tx n]
 | .cell n w => [tx n, tx w]
 | .gain n q w => [tx n, cF q, tx w]
 | .sum n ts => [tx n, .tup (ts.map gq)]
 | .out w => [tx w]
theorem G2 (p : Pt): p.obj = .obj p.cls p.flds p.vals := by cases p<;>rfl
theorem FW (p : Pt): ∀x∈p.flds, x∈(.av : List Str) := by
 intro x hx
 cases p<;>simp only [Pt.flds, List.mem_cons, List.not_mem_nil, or_false] at hx ⊢
 ·exact .inl hx
 ·rcases hx with h | h
  ·exact .inl h
  ·exact .inr (.inl h)
 ·rcases hx with h | h | h
  ·exact .inl h
  ·exact .inr (.inr (.inl h))
  ·exact .inr (.inl h)
 ·rcases hx with h | h
  ·exact .inl h
  ·exact .inr (.inr (.inr h))
 ·exact .inr (.inl hx)
theorem Mv {p : Pt}{alts : List .aN}{m : Str}{fo : FE}{g : FA}{τ τ1 τ2 : aD}{qs : List T}{d : List T->Option T}{t : T}(hm : ¬ m∈(.av : List Str))(h : fo τ = some (p.obj, τ1))(hf : ou p.cls alts = some d)(hg : g τ1 = some (qs, τ2))(hd : d (p.obj::qs) = some t): dP alts m fo g τ = some (t, τ2) := by
 rw [G2] at h hd
 exact GR h (fun z => hm (FW p m z)) hf hg hd
noncomputable abbrev dW : Pt->List T->Option T
 | .inp _ => rY
 | .cell _ _ => wO
 | .gain _ _ _ => wQ
 | .sum _ _ => wU
 | .out _ => wR
theorem LA (p : Pt): ou p.cls Iz = some (dW p) := by cases p<;>rfl
theorem wX (τ : aD): au τ = some ([], τ) := rfl
theorem RB {p : Pt}(h : p.Ok): dW p [p.obj] = some (.tup (p.ws.map tx)) := by
 cases p with
 |inp n => rfl
 |cell n w => exact ck rfl (bR (gu .bf))
 |gain n q w => exact ck rfl (bR (gu .bf))
 |out w => exact ck rfl (bR (gu .bf))
 |sum n ts =>
  refine ck rfl ?_
  show ic bW [s (Pt.sum n ts).obj] = _
  unfold ic
  have hc : bF 2 [] .fw .a1 aS (ae 1) [s (Pt.sum n ts).obj] = some (.lst (ts.map fun t => tx t.2), [s (Pt.sum n ts).obj]) := by
   refine dk (ts := ts.map gq) rfl rfl rfl ?_
   exact iF (φ := fun t : Bool×List Nat => T.int (lu t.1)) (ψ := fun t => tx t.2) (g := fun t => tx t.2) rfl ts none none [] (fun t ht => rfl) (by simpa using aW (by have := h.2.1;omega))
  refine bR (aA _ (bJ hc) ?_)
  show some (T.tup (ts.map fun t => tx t.2)) = some (T.tup ((ts.map (·.2)).map tx))
  rw [zaz]
  rfl
theorem yC {p : Pt}(h : p.Ok){fo : FE}{τ τ1 : aD}(ho : fo τ = some (p.obj, τ1)): dP Iz "wants" fo au τ = some (.tup (p.ws.map tx), τ1) := Mv Q3 ho (LA p) (wX _) (RB h)
theorem nD {p : Pt}{n : List Nat}(h : p.nm = some n){fo : FE}{τ τ1 : aD}(ho : fo τ = some (p.obj, τ1)): cS [dv, cv, bS, bW] "name" fo τ = some (tx n, τ1) := by
 unfold cS
 rw [ho]
 cases p with
 |out w => cases h
 |_ => cases h;rfl
theorem Ah {k : Str} : ∀{ns : List Str}, k∉ns->putN ns k = ns++[k]
 |[], _ => rfl
 |n::ns, h => by
  rw [putN, if_neg (fun e => h (by rw [e];exact zad)), Ah fun z => h (zae _ z)]
  rfl
theorem Ai {α : Type}{k : Str}{w : α} : ∀{ns : List Str} {vs : List α}, vs.length = ns.length->k∉ns->lq ns vs k w = vs++[w]
 |[], [], _, _ => rfl
 |[], _::_, h, _ => by cases h
 |n::ns, [], h, _ => by cases h
 |n::ns, v::vs, h, hk => by
  rw [lq, if_neg (fun e => hk (by rw [e];exact List.mem_cons_self)), Ai .aC fun z => hk (.I z)]
  rfl
theorem qV {ns : List Str}{vs : List T}{k : Str}{w : T}(hl : vs.length = ns.length)(h : k∉ns): DS.put (ns, vs) k w = (ns++[k], vs++[w]) := by
 unfold DS.put
 rw [Ah h, Ai hl h]
theorem oj {k : Str} : ∀{ns : List Str}, gT ns k = true ↔ k∈ns
 |[] => by simp [gT]
 |n::ns => by
  rw [gT]
  split
  ·next e => simp [e]
  ·next e =>
   rw [oj, zan]
   constructor
   ·exact .inr
   ·rintro (h | h)
    ·exact absurd h.symm e
    ·exact h
theorem IG {k : Str}{ns : List Str}(h : k∉ns): gT ns k = false := by
 cases e : gT ns k with
 |false => rfl
 |true => exact absurd (oj.mp e) h
theorem sL {n : List Nat}{ls : List .ce} : S n∈ls.map S ↔ n∈ls := by
 constructor
 ·intro h
  obtain⟨x, hx, e⟩ := zao.mp h
  rw [<- Ci e]
  exact hx
 ·intro h
  exact zao.mpr ⟨n, h, rfl⟩
abbrev names (ps : List Pt): List .ce := ps.filterMap Pt.nm
theorem GA {p : Pt}{fo : FE}{τ τ1 : aD}(h : fo τ = some (p.obj, τ1)): fA [(gS, false), (dv, false), (cv, false), (bS, false), (bW, false), (dh, true), (eu, false)] fo τ = some (.bl p.isOut, τ1) := by
 unfold fA
 rw [h]
 cases p<;>rfl
theorem K0 {p : Pt}{fo : FE}{τ τ1 : aD}(h : fo τ = some (p.obj, τ1)): fA [(gS, false), (dv, true), (cv, false), (bS, false), (bW, false), (dh, false), (eu, false)] fo τ = some (.bl p.isIn, τ1) := by
 unfold fA
 rw [h]
 cases p<;>rfl
theorem KY {p : Pt}{fo : FE}{τ τ1 : aD}(h : fo τ = some (p.obj, τ1)): fA [(gS, false), (dv, false), (cv, true), (bS, false), (bW, false), (dh, false), (eu, false)] fo τ = some (.bl p.isCell, τ1) := by
 unfold fA
 rw [h]
 cases p<;>rfl
abbrev PQ : List T->Option T := cg 4 1 (lE gS dv cv bS bW dh eu rY wO wQ wU wR)
def O0 : FZ := (La 1 (iG (cq (fA [(gS, false), (dv, false), (cv, false), (bS, false), (bW, false), (dh, true), (eu, false)] (ae 2)))) (Ko (DI 1 (cS [dv, cv, bS, bW] "name" (ae 2)) B9 pj) (uk 1 (cS [dv, cv, bS, bW] "name" (ae 2)) (fC .bK))) pj)
theorem vY (t : T)(a : Addr)(x y : Option Sl): mY 1 a [s t, s (.ptr a), x, y] = true := Nat.beq_refl a
theorem He {p : Pt}(h : p.isOut = true): p.nm = none := by cases p<;>first | rfl | cases h
theorem C8 {p : Pt}(h : p.isOut = false): ∃n, p.nm = some n := by cases p<;>first | exact⟨_, rfl⟩ | cases h
def GK : List Pt->Option Sl->Option Sl
 |[], x => x
 |p::ps, _ => GK ps (s p.obj)
theorem Dg (t : T)(a : Addr): ∀(ps qs : List Pt) (x : Option Sl), (names (qs++ps)).Nodup->(qs++ps).length≤900->m6 1 (ai 2) O0 .c2 a ((names qs).map S, (names qs).map fun _ => T.bl true) [s t, s (.ptr a), x, none] = some (((names (qs++ps)).map S, (names (qs++ps)).map fun _ => T.bl true), [s t, s (.ptr a), GK ps x, none])
 |[], qs, x, _, _ => by rw [zax];rfl
 |p::ps, qs, x, hn, hl => by
  have e : qs++p::ps = (qs++[p])++ps := by simp
  have h2 := Dg t a ps (qs++[p]) (s p.obj) (by rw [<- e];exact hn) (by rw [<- e];exact hl)
  have hB : O0 a ((names qs).map S, (names qs).map fun _ => T.bl true) .bM = some (((names (qs++[p])).map S, (names (qs++[p])).map fun _ => T.bl true), .bM) := by
   unfold O0 La
   have hc := ng (ee (GA (p := p) (fo := ae 2) (τ := .bM) rfl) rfl)
   rw [hc, zaa]
   dsimp only
   rw [if_pos (vY t a _ _)]
   cases ho : p.isOut with
   |true =>
    rw [if_neg .f]
    unfold pj names
    rw [zaX, zbs (He ho)]
    simp
   |false =>
    rw [if_pos (show (!false) = true from rfl)]
    obtain⟨n, hnm⟩ := C8 ho
    have nq := nD hnm (fo := ae 2) (τ := .bM) rfl
    have en : names (qs++[p]) = names qs++[n] := by
     unfold names
     rw [zaX, zaZ hnm]
     rfl
    have hnot : S n∉(names qs).map S := by
     rw [sL]
     intro z
     rw [e] at hn
     unfold names at hn
     rw [zaX] at hn
     have := (zaP.mp hn).1
     change (names (qs++[p])).Nodup at this
     rw [en, zaP] at this
     exact this.2.2 n z n .cn rfl
    unfold Ko DI
    rw [nq, zaa]
    dsimp only
    rw [if_pos (vY t a _ _), if_neg (by rw [IG hnot];decide)]
    unfold pj
    rw [zaa]
    unfold uk
    rw [show fC .bK .bM = some (.bl true, .bM) from rfl, zaa]
    dsimp only
    rw [if_pos (vY t a _ _), nq, zaa]
    dsimp only
    rw [if_pos ⟨vY t a _ _, bT (by
     rw [zah]
     have h1 : (names qs).length≤qs.length := List.length_filterMap_le ..
     rw [zai] at hl
     omega)⟩, qV (by rw [zah, zah]) hnot, en]
    simp
  rw [zaf, m6, show ai 2 p.obj [s t, s (.ptr a), x, none] = some .bM from rfl, zaa]
  rw [if_pos (vY t a _ _), hB, zaa, h2, <- e]
  rfl
def Rf : FS := (bZ (cw (ar (qu true) (ae 3) (ae 1))) gD bH)
def Rg : FS := fz (aZ (.ae 2)) (ai 3) Rf
theorem Am {ns : List .ce}{vs : List T}(t u : T): ∀(ws : List .ce) (x : Option Sl), (∀w∈ws, w∈ns)->∃y, cQ (ai 3) Rf (ws.map tx) [s t, s .c8, s u, x] = some (.nx [s t, s .c8, s u, y])
 |[], x, _ => ⟨x, rfl⟩
 |w::ws, x, h => by
  obtain⟨y, h2⟩ := Am (ns := ns) (vs := vs) t u ws (s (tx w)) fun z hz => h z (zae _ hz)
  refine⟨y, ?_⟩
  have hB : Rf [s t, s .c8, s u, s (tx w)] = some (.nx [s t, s .c8, s u, s (tx w)]) := cH (fF (aH rfl rfl (by
   show some (T.bl (xor true (gT (ns.map S) (S w)))) = _
   rw [oj.mpr (sL.mpr (h w zad))]
   rfl)))
  rw [zaf, cK rfl hB, h2]
theorem An {ns : List .ce}{vs : List T}(t : T): ∀(ps : List Pt) (x x3 : Option Sl), (∀p∈ps, p.Ok)->(∀p∈ps, ∀w∈p.ws, w∈ns)->∃y y3, cQ (ai 2) Rg .c2 [s t, s .c8, x, x3] = some (.nx [s t, s .c8, y, y3])
 |[], x, x3, _, _ => ⟨x, x3, rfl⟩
 |p::ps, x, x3, ho, h => by
  obtain⟨y3, h3⟩ := Am (ns := ns) (vs := vs) t p.obj p.ws x3 (h p zad)
  obtain⟨y, z3, h2⟩ := An (ns := ns) (vs := vs) t ps (s p.obj) y3 (fun z hz => ho z (zae _ hz)) fun z hz => h z (zae _ hz)
  refine⟨y, z3, ?_⟩
  have hf : aZ (.ae 2) [s t,s .c8,s p.obj,x3]=some (p.ws.map tx,[s t,s .c8,s p.obj,x3]):=by
   unfold aZ
   rw [yC (ho p zad) rfl]
   rfl
  rw [zaf,cK rfl (show Rg _=_ from iH hf h3),h2]
theorem O1 {ps:.bH}{r:.cr}(h:Gp ps r):PQ [.lst .c2]=some .non:=by
 obtain⟨y,y3,h2⟩:=An (ns:=names ps) (vs:=(names ps).map fun _=>T.bl true) .D ps (GK ps none) none h.ok h.ws
 have hr:qf 1 (mz (AN 1 .eQ (ai 2) O0) (zEnd 1 (fz .eQ (ai 2) Rg))) [s .D,none,none,none]=some (.nx [s .D,s (.dct ((names ps).map S) ((names ps).map fun _=>T.bl true)),y,y3]):=by
  refine yY .ef fun a=>?_
  have h1:=Dg .D a ps [] none (by simpa using h.nd) (by have:=h.len;simp;omega)
  show mz _ _ a ([],[]) [s .D,s (.ptr a),none,none]=_
  unfold mz AN
  rw [show aZ (ae 0) [s .D,s (.ptr a),none,none]=some (ps.map Pt.obj,[s .D,s (.ptr a),none,none]) from rfl,zaa]
  dsimp only
  rw [if_pos (vY _ a _ _)]
  change (m6 1 (ai 2) O0 .c2 a ((names []).map S,(names []).map fun _=>T.bl true) [s .D,s (.ptr a),none,none]).bind _=_
  rw [h1,zaa]
  exact iH rfl h2
 exact KG rfl hr
theorem oh {f:Pt->Bool}{ft:FT}{ρ:aD}(hr:bL ρ=true)(h1:∀p,ft (s p.obj::ρ)=some (f p,s p.obj::ρ)):∀(l:.bH) (u:.aW) (acc:List T),acc.length+l.length≤sizeLine->(u=none\/∃t,u=s t) ->
  eD (ai 0) ft (ae 0) (l.map Pt.obj) (u::ρ) acc=some (acc++(l.filter f).map Pt.obj)
 |[],u,acc,_,_=>by simp [eD]
 |p::l,u,acc,hl,_=>by
  have hl':acc.length+(l.length+1)≤sizeLine:=hl
  have hs:bL (s p.obj::ρ)=true:=by simpa [bL] using hr
  rw [zaf,eD,show ai 0 p.obj (u::ρ)=some (s p.obj::ρ) from rfl,zaa,h1,zaa]
  cases hp:f p with
  |true =>
   rw [if_pos rfl,show ae 0 (s p.obj::ρ)=some (p.obj,s p.obj::ρ) from rfl,Option.bind_some,if_pos ⟨hs,.e⟩,oh hr h1 l _ _ .cu (.inr .aB),List.filter_cons_of_pos hp,List.map_cons,List.append_assoc]
   rfl
  |false =>
   rw [if_neg .h,if_pos hs]
   dsimp only
   rw [oh hr h1 l _ _ .e (.inr .aB),List.filter_cons_of_neg (by simp [hp])]
noncomputable abbrev PM:List T->Option T:=cg 4 1 (fO gS dv cv bS bW dh eu)
theorem FU {f:Pt->Bool}{ft:FT}{ps:.bH}{τ:aD}(h1:∀p,ft [s p.obj]=some (f p,[s p.obj]))(h:aZ (ae 0) τ=some (ps.map Pt.obj,τ))(hl:ps.length≤900):bF 1 [] .eQ (ai 0) ft (ae 0) τ=some (.lst ((ps.filter f).map Pt.obj),τ):=
 dk h rfl rfl (oh (ρ:=[]) rfl h1 ps none [] .a9 .cf)
theorem Jd {f:FE}{τ:aD}{n:Nat}{m:Int}(h:f τ=some (br n,τ))(hn:(n:Int)≤m):cw (ar Bm f (fC (.j m))) τ=some (false,τ):=fF (aH h rfl (by
 show some (T.bl (decide (m<(n:Int))))=_
 rw [decide_eq_false .e]))
theorem KH {f:FE}{τ:aD}{n:Nat}(h:f τ=some (br n,τ))(hn:1≤n):cw (ar eJ f (az 0)) τ=some (false,τ):=fF (aH h rfl (by
 rw [gQ,decide_eq_false .e]))
theorem qS {α:Type}(f:α->T)(l:List α):cn [.lst (l.map f)]=some (.j (l.length:Nat)):=by rw [C3,zah]
theorem OX {ps:.bH}{r:.cr}(h:Gp ps r):PM [.lst .c2]=some .non:=by
 have hl:=h.len
 have e1:∀τ:aD,aZ (ae 0) τ=some (ps.map Pt.obj,τ)->ao cn (.ay (.x (ae 0) (fA [(gS,false),(dv,true),(cv,false),(bS,false),(bW,false),(dh,false),(eu,false)] (ae 0)))) τ=some (.int .df,τ):=fun τ ht=>aA _ (bJ (FU (f:=Pt.isIn) (fun p=>ee (K0 rfl) rfl) ht .e)) (qS _ _)
 have e2:∀τ:aD,aZ (ae 0) τ=some (ps.map Pt.obj,τ)->ao cn (.ay (.x (ae 0) (fA [(gS,false),(dv,false),(cv,true),(bS,false),(bW,false),(dh,false),(eu,false)] (ae 0)))) τ=some (.int .ew,τ):=fun τ ht=>aA _ (bJ (FU (f:=Pt.isCell) (fun p=>ee (KY rfl) rfl) ht .e)) (qS _ _)
 have e3:∀τ:aD,aZ (ae 0) τ=some (ps.map Pt.obj,τ)->ao cn (.ay (.x (ae 0) (fA [(gS,false),(dv,false),(cv,false),(bS,false),(bW,false),(dh,true),(eu,false)] (ae 0)))) τ=some (.int ((ps.filter Pt.isOut).length:Nat),τ):=fun τ ht=>aA _ (bJ (FU (f:=Pt.isOut) (fun p=>ee (GA rfl) rfl) ht .e)) (qS _ _)
 refine KG (τ:=[s .D,s (.j .df),s (.j .ew),s (.j ((ps.filter Pt.isOut).length:Nat))]) rfl ?_
 show fO gS dv cv bS bW dh eu [s .D,none,none,none]=_
 unfold fO
 rw [aO (bV (τ2:=[s .D,s (.j .df),none,none]) (e1 _ rfl) rfl),aO (bV (τ2:=[s .D,s (.j .df),s (.j .ew),none]) (e2 _ rfl) rfl),
  aO (bV (τ2:=[s .D,s (.j .df),s (.j .ew),s (.j ((ps.filter Pt.isOut).length:Nat))]) (e3 _ rfl) rfl),
  aO (cH (la (Jd (.ac (qS _ _)) .e) (la (Jd rfl (by have:=h.cells;omega)) (la (Jd rfl (by have:=h.ins;omega)) (Jd rfl (by have:=h.outs;omega))))))]
 exact cH (la (KH rfl h.ins.1) (KH rfl h.outs.1))
section
variable {α:Type}{φ:α->T}{E:α->aD}{f:α->Bool}{P:aD->Prop}{fg:FG}{ft:FT}
theorem pD {g:α->T}{fe:FE}(hg:∀τ x,P τ->fg (φ x) τ=some (E x))(hP:∀x,P (E x))(hs:∀x,bL (E x)=true):∀(l:List α) (τ:aD) (acc:List T),(∀x∈l,ft (E x)=some (f x,E x))->(∀x∈l,f x=true->fe (E x)=some (g x,E x))->P τ->acc.length+l.length≤sizeLine->eD fg ft fe (l.map φ) τ acc=some (acc++(l.filter f).map g)
 |[],τ,acc,_,_,_,_=>by simp [eD]
 |x::l,τ,acc,ht,he,hp,hl=>by
  have hl':acc.length+(l.length+1)≤sizeLine:=hl
  have ht':=fun z hz=>ht z (zae x hz)
  have he':=fun z hz=>he z (zae x hz)
  rw [zaf,eD,hg τ x hp,zaa,ht x zad,zaa]
  cases h:f x with
  |true =>
   rw [if_pos rfl,he x zad h,zaa,if_pos ⟨hs x,.e⟩,pD hg hP hs l _ _ ht' he' (hP x) .bB,za2 h,zaf,zaO]
   rfl
  |false =>
   rw [if_neg .h,if_pos (hs x)]
   dsimp only
   rw [pD hg hP hs l _ _ ht' he' (hP x) .e,List.filter_cons_of_neg (by simp [h])]
theorem nk {g:α->O}{fe:uu}(hg:∀τ x,P τ->fg (φ x) τ=some (E x))(hP:∀x,P (E x))(hs:∀x,bL (E x)=true):∀(l:List α) (τ:aD) (acc:List O),(∀x∈l,ft (E x)=some (f x,E x))->(∀x∈l,f x=true->fe (E x)=some (g x,E x))->P τ->acc.length+l.length≤sizeLine->gX fg ft fe (l.map φ) τ acc=some (acc++(l.filter f).map g)
 |[],τ,acc,_,_,_,_=>by simp [gX]
 |x::l,τ,acc,ht,he,hp,hl=>by
  have hl':acc.length+(l.length+1)≤sizeLine:=hl
  have ht':=fun z hz=>ht z (zae x hz)
  have he':=fun z hz=>he z (zae x hz)
  rw [zaf,gX,hg τ x hp,zaa,ht x zad,zaa]
  cases h:f x with
  |true =>
   rw [if_pos rfl,he x zad h,zaa,if_pos ⟨hs x,.e⟩,nk hg hP hs l _ _ ht' he' (hP x) .bB,za2 h,zaf,zaO]
   rfl
  |false =>
   rw [if_neg .h,if_pos (hs x)]
   dsimp only
   rw [nk hg hP hs l _ _ ht' he' (hP x) .e,List.filter_cons_of_neg (by simp [h])]
theorem kg {k:α->List Nat}{g:α->T}{fk fv:FE}(hg:∀τ x,P τ->fg (φ x) τ=some (E x))(hP:∀x,P (E x))(hs:∀x,bL (E x)=true):∀(l:List α) (τ:aD) (ns:.U) (ts:List T),(∀x∈l,ft (E x)=some (f x,E x))->(∀x∈l,f x=true->fk (E x)=some (tx (k x),E x))->(∀x∈l,f x=true->fv (E x)=some (g x,E x))->P τ->ts.length=ns.length->ns.length+l.length≤900->(ns++(l.filter f).map k).Nodup ->
  jn fg ft fk fv (l.map φ) τ (ns.map S,ts)=some ((ns++(l.filter f).map k).map S,ts++(l.filter f).map g)
 |[],τ,ns,ts,_,_,_,_,_,_,_=>by simp [jn]
 |x::l,τ,ns,ts,ht,hk,hv,hp,hn,hl,nd=>by
  rw [zaj] at hl
  have ht':=fun z hz=>ht z (zae x hz)
  have hk':=fun z hz=>hk z (zae x hz)
  have hv':=fun z hz=>hv z (zae x hz)
  rw [zaf,jn,hg τ x hp,zaa,ht x zad,zaa]
  cases h:f x with
  |true =>
   rw [za2 h,zaf] at nd ⊢
   have hnot:S (k x)∉ns.map S:=by
    rw [sL]
    intro z
    exact (zaP.mp nd).2.2 _ z _ zad rfl
   rw [if_pos rfl,hk x zad h,zaa]
   dsimp only
   rw [hv x zad h,zaa,if_pos ⟨hs x,bT (by rw [zah];omega)⟩,qV (by rw [zah];exact hn) hnot]
   have:=kg (k:=k) (g:=g) (fk:=fk) (fv:=fv) hg hP hs l (E x) (ns++[k x]) (ts++[g x]) ht' hk' hv' (hP x) (by rw [zai,zai,hn];rfl) .bB (by rw [zaO];exact nd)
   rw [zaH] at this
   rw [show ([S (k x)]:List Str)=[k x].map S from rfl,this]
   simp
  |false =>
   rw [List.filter_cons_of_neg (by simp [h])] at nd ⊢
   rw [if_neg .h,if_pos (hs x)]
   exact kg hg hP hs l _ ns ts ht' hk' hv' (hP x) hn .e nd
end
theorem DF:∀ls:List .ce,pW .ek=some .bO
 |[]=>rfl
 |l::ls=>by
  show (wm (tx l)).bind _=_
  rw [show wm (tx l)=some (.str (S l)) from rfl,zaa,DF ls]
  rfl
theorem Dm:∀ls:List .ce,(∀l∈ls,nh l)->PyData.canLayAll0 .bO=true/\PyData.depthAll .bO≤0
 |[],_=>⟨rfl,zak _⟩
 |l::ls,h=>by
  obtain⟨h1,h2⟩:=Dm ls fun x hx=>h x (zae _ hx)
  refine⟨?_,?_⟩
  ·simp only [List.map_cons,PyData.canLayAll0,h1,Bool.and_true,PyData.canLay0]
   exact Rj (h l zad)
  ·simp only [List.map_cons,PyData.depthAll,PyData.depth]
   exact Nat.max_le.mpr ⟨zak _,h2⟩
theorem Lg (n:.I)(ls:.U):(ls.map fun l=>PyData.str (S l)).any (fun y=>PyData.eqv y (.str (S n)))=decide (n∈ls):=by
 rw [List.any_map,Bool.eq_iff_iff,List.any_eq_true,decide_eq_true_eq]
 constructor
 ·rintro ⟨l,hl,e⟩
  have:(S l == S n)=true:=by simpa [PyData.eqv] using e
  rw [beq_iff_eq,Le] at this
  rwa [<- this]
 ·intro h
  refine⟨n,h,?_⟩
  simp [PyData.eqv]
theorem CJ {neg:Bool}{n:.I}{ls:.U}(hn:nh n)(h:∀l∈ls,nh l):IV neg (tx n) (bY ls)=some (.bl (if neg then !decide (n∈ls) else decide (n∈ls))):=by
 obtain⟨h1,h2⟩:=Dm ls h
 unfold IV
 rw [show wm (tx n)=some (.str (S n)) from rfl,zaa,show wm (bY ls)=(pW .ek).map PyData.list from rfl,DF,Option.map_some,zaa]
 show (some .bO).bind _=_
 have hs:SeqAt.shaped (.list .bO)=true:=by
  unfold SeqAt.shaped
  have g1:(PyData.list .bO).canLay0=true:=by simp only [PyData.canLay0,h1]
  have g2:(PyData.list .bO).depth≤64:=by
   simp only [PyData.depth]
   exact zaA (Nat.add_le_add_right h2 1) (by decide:0+1≤64)
  rw [g1,decide_eq_true g2]
  rfl
 rw [zaa,if_pos ⟨tR hn,hs⟩,Lg]
theorem rA (bt:Nat->Nat->Bool):∀k,argBest bt k≤k
 |0=>zak _
 |k+1=>by
  rw [argBest.eq_2]
  split
  ·exact zak _
  ·exact Nat.le_succ_of_le (rA bt k)
theorem LZ {ls:.U}(h:ls≠[]):∃m∈ls,rX [bY ls]=some (tx m):=by
 have hl:0<ls.length:=List.length_pos_iff.mpr h
 have e:rX [bY ls]=some (.str (GS (ls.map S))):=by
  show (strsOf .ek).bind _=_
  rw [oY,zaa,if_pos (by rw [zah];exact hl)]
 have hi:argBest (O6 (ls.map S)) ((ls.map S).length-1)<(ls.map S).length:=by
  have:=rA (O6 (ls.map S)) ((ls.map S).length-1)
  rw [zah] at this ⊢
  omega
 have hm:GS (ls.map S)∈ls.map S:=by
  unfold GS
  exact getD_mem hi
 obtain⟨m,h1,h2⟩:=zao.mp hm
 exact⟨m,h1,by rw [e,<- h2]⟩
theorem sub_len {α:Type}:∀{a b:List α},a.Nodup->(∀x∈a,x∈b)->a.length≤b.length
 |[],_,_,_=>za6 _
 |x::a,b,hn,h=>by
  obtain⟨s,t,rfl⟩:=List.append_of_mem (h x zad)
  have hn':=zbe.mp hn
  have:=sub_len (b:=s++t) hn'.2 fun z hz=>by
   have hz':=h z (zae _ hz)
   rcases zaB.mp hz' with q | q
   ·exact zbd _ q
   ·rcases zan.mp q with q | q
    ·subst q;exact absurd hz hn'.1
    ·exact zar _ q
  rw [zai] at this
  rw [zaj,zai,zaj]
  omega
theorem zc {α:Type}(l:List α):l.filter (fun _=>true)=l:=List.filter_eq_self.mpr fun _ _=>rfl
def Pt.nam:Pt->List Nat
 | .inp n=>n
 | .cell n _=>n
 | .gain n _ _=>n
 | .sum n _=>n
 | .out _=>[]
theorem sy {p:Pt}(h:p.inner=true):p.nm=some p.nam:=by cases p<;>first | rfl | cases h
theorem vO {p:Pt}(h:p.inner=true)(ho:p.Ok):nh p.nam:=by
 cases p with
 |gain n q w=>exact ho.1.asc
 |sum n ts=>exact ho.1.asc
 |_=>cases h
abbrev cT (ps:.bH):List Pt:=ps.filter Pt.inner
abbrev sx (ps:.bH):List .ce:=(cT ps).map Pt.nam
theorem sq:∀ps:List Pt,(cT ps).filterMap Pt.nm=sx ps
 |[]=>rfl
 |p::ps=>by
  unfold sx cT
  cases h:p.inner with
  |true =>
   rw [za2 h,zaZ (sy h),zaf]
   congr 1
   exact sq ps
  |false =>
   rw [List.filter_cons_of_neg (by simp [h])]
   exact sq ps
theorem Bs {ps:.bH}{r:.cr}(h:Gp ps r):(sx ps).Nodup:=by
 rw [<- sq]
 exact List.Sublist.nodup ((List.filter_sublist (l:=ps) (p:=Pt.inner)).filterMap Pt.nm) h.nd
noncomputable abbrev D1 (ps:.bH):T:=.dct ((sx ps).map S) ((cT ps).map Pt.obj)
def Wp (ps:.bH)(p:Pt):List .ce:=p.ws.filter fun w=>decide (w∈sx ps)
noncomputable abbrev D2 (ps:.bH):T:=.dct ((sx ps).map S) ((cT ps).map fun p=>bY (Wp ps p))
theorem pM {f:Pt->List Nat}{g:Pt->T}:∀l:List Pt,gi ((l.map f).map S) (l.map g)=l.map fun p=>.tup [tx (f p),g p]
 |[]=>rfl
 |p::l=>by
  rw [zaf,zaf,zaf,zaf,gi,pM l]
theorem Ov (p:Pt):cq .cb [s p.obj]=some (p.inner,[s p.obj]):=by
 refine ee (aA [p.obj,.tup [.ptr bS,.ptr bW]] (cu rfl (gu .b1)) (t:=.bl p.inner) ?_) rfl
 cases p<;>rfl
theorem QQ {ps:.bH}{r:.cr}(h:Gp ps r):jq 1 [] .eQ (ai 0) (cq .cb) (cS [dv,cv,bS,bW] "name" (ae 0)) (ae 0) .ez=some (D1 ps,.ez):=by
 have e:=kg (φ:=Pt.obj) (E:=fun p=>[s p.obj]) (f:=Pt.inner) (P:=fun τ=>∃u,τ=[u]) (fg:=ai 0) (k:=Pt.nam) (g:=Pt.obj) (ft:=cq .cb) (fk:=cS [dv,cv,bS,bW] "name" (ae 0)) (fv:=ae 0)
  (fun τ p ⟨u,e⟩=>by rw [e];rfl) (fun p=>⟨_,rfl⟩) (fun p=>rfl) ps [none] [] [] (fun p _=>Ov p) (fun p _ hp=>nD (sy hp) rfl) (fun p _ _=>rfl) .aB rfl (by have:=h.len;simp;omega) (by rw [List.nil_append];exact Bs h)
 unfold jq
 rw [show aZ (ae 0) .ez=some (ps.map Pt.obj,.ez) from rfl,zaa]
 show (if bL [none]=true then (jn _ _ _ _ .c2 [none] ([],[])).bind _ else none)=_
 rw [if_pos (show bL [none]=true from rfl),show (([],[]):DS)=(([]:List .ce).map S,[]) from rfl,e]
 rfl
theorem QR {ps:.bH}{r:.cr}(h:Gp ps r):jq 2 [1] (iZ (ae 1)) .a1 aS (ae 0) (.ak (.ae 1)) .ed=some (D2 ps,.ed):=by
 have hv:∀p∈cT ps,bF 1 [2] (aZ (.ae 1)) (ai 0) (cw (.q (qu false) (ae 1))) (ae 0) [s (tx p.nam),s p.obj,s .de]=some (bY (Wp ps p),[s (tx p.nam),s p.obj,s .de]):=fun p hp=>by
  have hp':=(za4.mp hp).1
  refine dk (ts:=p.ws.map tx) ?_ rfl rfl ?_
  ·unfold aZ
   rw [yC (h.ok p hp') rfl]
   rfl
  ·have hw:p.ws.length≤5:=by
    have:=h.ok p hp'
    cases p with
    |sum n ts=>have:=this.2.1;simp only [Pt.ws,List.length_map];omega
    |_=>exact zag rfl
   have:=pD (φ:=tx) (E:=fun w=>[s (tx w),s .de]) (f:=fun w=>decide (w∈sx ps)) (P:=fun τ=>∃u,τ=[u,s .de]) (fg:=ai 0) (g:=tx) (ft:=cw (.q (qu false) (ae 1))) (fe:=ae 0)
    (fun τ w ⟨u,e⟩=>by rw [e];rfl) (fun w=>⟨_,rfl⟩) (fun w=>rfl) p.ws [none,s .de] [] (fun w _=>fF (aH rfl rfl (by
     show some (T.bl (xor false (gT ((sx ps).map S) (S w))))=_
     rw [Bool.false_xor]
     congr 2
     rw [Bool.eq_iff_iff,oj,decide_eq_true_eq,sL]))) (fun w _ _=>rfl) .aB .a9
   exact this
 have e:=kg (φ:=fun p:Pt=>T.tup [tx p.nam,p.obj]) (E:=fun p=>[s (tx p.nam),s p.obj,s .de]) (f:=fun _=>true) (P:=fun τ=>∃u v,τ=[u,v,s .de]) (fg:=bK (.a 0 1)) (k:=Pt.nam) (g:=fun p=>bY (Wp ps p)) (ft:=aS) (fk:=ae 0) (fv:=bF 1 [2] (aZ (.ae 1)) (ai 0) (cw (.q (qu false) (ae 1))) (ae 0))
  (fun τ p ⟨u,v,e⟩=>by rw [e];rfl) (fun p=>⟨_,_,rfl⟩) (fun p=>rfl) (cT ps) [none,none,s .de] [] [] (fun p _=>rfl) (fun p _ _=>rfl) (fun p hp _=>hv p hp) ⟨_,_,rfl⟩ rfl (by have:=h.len;have:(cT ps).length≤ps.length:=List.length_filter_le ..;simp;omega) (by rw [List.nil_append,zc];exact Bs h)
 unfold jq
 have hi:iZ (ae 1) .ed=some ((cT ps).map fun p=>T.tup [tx p.nam,p.obj],.ed):=by
  show some (gi ((sx ps).map S) ((cT ps).map Pt.obj),_)=_
  rw [pM]
 rw [hi,zaa]
 show (if bL [none,none,s .de]=true then (jn _ _ _ _ ((cT ps).map fun p=>T.tup [tx p.nam,p.obj]) [none,none,s .de] ([],[])).bind _ else none)=_
 rw [if_pos (show bL [none,none,s .de]=true from rfl),show (([],[]):DS)=(([]:List .ce).map S,[]) from rfl,e,zc]
 rfl
abbrev Ky:List T->Option O:=IK 2 2 ip
def KN (ps:.bH)(ord:.U)(p:Pt):Bool:=!decide (p.nam∈ord)&&(Wp ps p).all fun w=>decide (w∈ord)
def free (ps:.bH)(ord:.U):List .ce:=((cT ps).filter (KN ps ord)).map Pt.nam
theorem DT (f:List Nat->Bool):∀l:List .ce,mP [.lst (l.map fun w=>T.bl (f w))]=some (.bl (l.all f)):=fun l=>by
 have e:∀l:List .ce,boolsOf (l.map fun w=>T.bl (f w))=some (l.map f):=by
  intro l
  induction l with
  |nil=>rfl
  |cons a l ih =>
   show (boolsOf (l.map fun w=>T.bl (f w))).bind _=_
   rw [ih]
   rfl
 show (boolsOf _).bind _=_
 rw [e l]
 show some (T.bl ((l.map f).all id))=_
 rw [zb1]
 rfl
theorem M6 {ps:.bH}{r:.cr}(h:Gp ps r){p:Pt}(hp:p∈ps):∀w∈p.ws,nh w:=by
 intro w hw
 have ho:=h.ok p hp
 cases p with
 |inp n=>cases hw
 |cell n v=>rw [zac.mp hw];exact ho.2.asc
 |gain n q v=>rw [zac.mp hw];exact ho.2.1.asc
 |out v=>rw [zac.mp hw];exact pY.asc ho
 |sum n ts =>
  obtain⟨t,ht,rfl⟩:=zao.mp hw
  exact (ho.2.2 t ht).asc
theorem Oa {ps:.bH}{r:.cr}(h:Gp ps r){ord:.U}(ho:∀w∈ord,nh w):Ky [D2 ps,bY ord]=some (.lst ((free ps ord).map fun n=>O.val (tx n))):=by
 have hin:∀p∈cT ps,ki (cw (.c pG 0 2)) (cq .bx) .bn=some (KN ps ord p,.bn):=fun p hp=>by
  obtain⟨hp1,hp2⟩:=za4.mp hp
  have a1:=vO hp2 (h.ok p hp1)
  have c1:cw (.c pG 0 2) .bn=some (!decide (p.nam∈ord),.bn):=fF (.s (CJ (neg:=true) a1 ho))
  have c2:cq .bx .bn=some ((Wp ps p).all fun w=>decide (w∈ord),.bn):=by
   refine ee (aA _ (bJ (dk (ts:=(Wp ps p).map tx) (us:=(Wp ps p).map fun w=>T.bl (decide (w∈ord))) rfl rfl rfl ?_)) (DT (fun w=>decide (w∈ord)) (Wp ps p))) rfl
   have hw:(Wp ps p).length≤5:=by
    have e1:(Wp ps p).length≤p.ws.length:=List.length_filter_le ..
    have:=h.ok p hp1
    cases p with
    |sum n ts=>have:=this.2.1;simp only [Pt.ws,List.length_map] at e1;omega
    |_=>exact zaA e1 .ef
   exact dQ (φ:=tx) (g:=fun w=>T.bl (decide (w∈ord))) (ρ:=[s .eV]) rfl (Wp ps p) none [] (fun w hw=>aH rfl rfl (CJ (neg:=false) (M6 h hp1 w (List.mem_filter.mp hw).1) ho)) .a9
  unfold KN
  cases hc : !decide (p.nam∈ord) with
  |true =>
   rw [hc] at c1
   rw [Ck c1,c2,zbn]
  |false =>
   rw [hc] at c1
   rw [Kw c1,Bool.false_and]
 have e:=nk (φ:=fun p:Pt=>T.tup [tx p.nam,bY (Wp ps p)]) (E:=fun p=>[s (tx p.nam),s (bY (Wp ps p)),s .eV]) (f:=KN ps ord) (P:=fun τ=>∃u v,τ=[u,v,s .eV]) (fg:=bK (.a 0 1)) (g:=fun p=>O.val (tx p.nam)) (ft:=ki (cw (.c pG 0 2)) (cq .bx)) (fe:=uy (ae 0))
  (fun τ p ⟨u,v,e⟩=>by rw [e];rfl) (fun p=>⟨_,_,rfl⟩) (fun p=>rfl) (cT ps) [none,none,s .eV] [] hin (fun p _ _=>rfl) ⟨_,_,rfl⟩ (by have:=h.len;have:(cT ps).length≤ps.length:=List.length_filter_le ..;simpa using aW .e)
 have hi:iZ (ae 0) [s (D2 ps),s .eV]=some ((cT ps).map fun p=>T.tup [tx p.nam,bY (Wp ps p)],[s (D2 ps),s .eV]):=by
  show some (gi ((sx ps).map S) ((cT ps).map fun p=>bY (Wp ps p)),_)=_
  rw [pM]
 show (if ([D2 ps,bY ord]:List T).length=2 then ip [s (D2 ps),s .eV] else none)=_
 rw [if_pos (show ([D2 ps,bY ord]:List T).length=2 from rfl)]
 unfold ip CC
 rw [show nA 2 [1] (iZ (ae 0)) .a1 (ki (cw (.c pG 0 2)) (cq .bx)) (uy (ae 0)) [s (D2 ps),s .eV]=some (.lst (((cT ps).filter (KN ps ord)).map fun p=>O.val (tx p.nam)),[s (D2 ps),s .eV]) by
  unfold nA
  rw [hi,zaa]
  show (if bL [none,none,s .eV]=true then (gX _ _ _ ((cT ps).map fun p=>T.tup [tx p.nam,bY (Wp ps p)]) [none,none,s .eV] []).bind _ else none)=_
  rw [if_pos (show bL [none,none,s .eV]=true from rfl),e]
  rfl]
 unfold free
 rw [zaz]
 rfl
noncomputable abbrev uB (ps:.bH)(ord:.U)(x:.aW):aD:=[s .D,s .de,s (D2 ps),some (.own (ord.map tx)),x]
def P2:FE:=pE 3 (lG Ky (.o 2 3))
theorem CT {ps:.bH}{r:.cr}(h:Gp ps r){ord:.U}(ho:∀w∈ord,nh w)(x:.aW)(hx:x=none\/∃t,x=s t):P2 (uB ps ord x)=some (bY (free ps ord),uB ps ord x):=by
 have e:lG Ky (.o 2 3) [s .D,s .de,s (D2 ps),s .eV,x]=some (.lst ((free ps ord).map fun n=>O.val (tx n)),[s .D,s .de,s (D2 ps),s .eV,x]):=by
  unfold lG
  rw [cu (f:=ae 2) (g:=ae 3) (t:=D2 ps) (u:=bY ord) rfl rfl,zaa,Oa h ho]
  rfl
 unfold P2 pE
 show ((lG Ky (.o 2 3) ((hide (uB ps ord x)).set 3 (fQ (.lst (ord.map tx))))).bind _)=_
 rw [show (hide (uB ps ord x)).set 3 (fQ (.lst (ord.map tx)))=[s .D,s .de,s (D2 ps),s .eV,x] by rcases hx with rfl | ⟨t,rfl⟩<;>rfl,e,zaa]
 dsimp only
 rw [show ((free ps ord).map fun n=>O.val (tx n))=((free ps ord).map S).map fun k=>O.val (.str k) by rw [zaz];rfl,wj,zaa,zaz]
 rfl
def P1:FS:=(aF (fS 3 (.h rX 4)) (bA 4 P2))
theorem FY {ps:.bH}{ord:.U}{m:.I}(h:m∈free ps ord):m∈sx ps/\m∉ord:=by
 obtain⟨p,hp,rfl⟩:=zao.mp h
 obtain⟨h1,h2⟩:=za4.mp hp
 refine⟨zao.mpr ⟨p,h1,rfl⟩,fun z=>?_⟩
 unfold KN at h2
 rw [decide_eq_true z] at h2
 cases h2
theorem CO {ps:.bH}{r:.cr}(h:Gp ps r){w:.I}(hw:w∈sx ps):nh w:=by
 obtain⟨p,hp,rfl⟩:=zao.mp hw
 obtain⟨h1,h2⟩:=za4.mp hp
 exact vO h2 (h.ok p h1)
theorem zu {ps:.bH}{r:.cr}(h:Gp ps r):∀(n:Nat) (ord:.U),ord.Nodup->(∀w∈ord,w∈sx ps)->(sx ps).length<n+ord.length->∃ord',ord'.Nodup/\(∀w∈ord',w∈sx ps)/\free ps ord'=[]/\cU (cq (ae 4)) P1 n (uB ps ord .dk)=some (.nx (uB ps ord' (s (bY []))))
 |0,ord,hn,hs,hf=>by
  have:=sub_len hn hs
  omega
 |n+1,ord,hn,hs,hf=>by
  have hl:=sub_len hn hs
  have hN:(sx ps).length≤24:=by
   have:=h.len
   have:(cT ps).length≤ps.length:=List.length_filter_le ..
   rw [zah]
   omega
  by_cases he:free ps ord=[]
  ·refine⟨ord,hn,hs,he,?_⟩
   rw [he]
   exact uh (ee rfl rfl) (Nat.succ_pos n)
  ·obtain⟨m,hm,e1⟩:=LZ he
   obtain⟨m1,m2⟩:=FY hm
   obtain⟨ord',g1,g2,g3,g4⟩:=zu h n (ord++[m]) (zaP.mpr ⟨hn,List.pairwise_singleton ..,fun a ha b hb e=>by
    rw [zac.mp hb] at e
    exact m2 (e ▸ ha)⟩) (fun w hw=>by
    rcases zaB.mp hw with hw | hw
    ·exact hs w hw
    ·rw [zac.mp hw];exact m1) .bB
   refine⟨ord',g1,g2,g3,?_⟩
   have hB:P1 (uB ps ord .dk)=some (.nx (uB ps (ord++[m]) (s (bY (free ps (ord++[m])))))):=by
    unfold P1
    have a1:=pZ (i:=3) (f:=ao rX (bM 4)) (τ:=uB ps ord .dk) (ts:=ord.map tx) (t:=tx m) rfl (.ac e1) (bT (by rw [zah];omega))
    rw [show (uB ps ord .dk).set 3 (.v (ord.map tx++[tx m]))=uB ps (ord++[m]) .dk by unfold uB;rw [List.map_append];rfl] at a1
    rw [aO a1]
    exact bV (CT h (fun w hw=>by
     rcases zaB.mp hw with hw | hw
     ·exact CO h (hs w hw)
     ·rw [zac.mp hw];exact CO h m1) _ (.inr .aB)) rfl
   have hc:cq (ae 4) (uB ps ord .dk)=some (true,uB ps ord .dk):=by
    refine ee rfl ?_
    show some (!((free ps ord).map tx).isEmpty)=_
    cases hq:free ps ord with
    |nil=>exact absurd hq he
    |cons a b=>rfl
   rw [ui hc hB,g4]
theorem AZ {ps:.bH}{r:.cr}(h:Gp ps r){ord:.U}(hf:free ps ord=[]):∀(n:Nat) (p:Pt),p∈cT ps->r p.nam=n->p.nam∈ord:=by
 intro n
 induction n using Nat.strongRecOn with
 |ind n ih =>
  intro p hp hr
  obtain⟨h1,h2⟩:=za4.mp hp
  by_cases hz:p.nam∈ord
  ·exact hz
  ·exfalso
   have hw:∀w∈Wp ps p,w∈ord:=fun w hw=>by
    obtain⟨w1,w2⟩:=za4.mp hw
    obtain⟨q,hq,rfl⟩:=zao.mp (of_decide_eq_true w2)
    have:=h.rk p h1 h2 p.nam (sy h2) q.nam w1
    exact ih (r q.nam) .e q hq rfl
   have hfr:KN ps ord p=true:=by
    unfold KN
    rw [decide_eq_false hz,Bool.not_false,zbn,List.all_eq_true]
    exact fun w hw'=>decide_eq_true (hw w hw')
   have:p.nam∈free ps ord:=zao.mpr ⟨p,za4.mpr ⟨hp,hfr⟩,rfl⟩
   rw [hf] at this
   cases this
theorem Fp {k:Str}:∀{ns:.Y} {ts:List T},ts.length=ns.length->k∈ns->∃v,yT ns ts k=some v
 |[],_,_,h=>by cases h
 |n::ns,[],hl,_=>by cases hl
 |n::ns,t::ts,hl,h=>by
  by_cases e:n=k
  ·exact⟨t,by rw [yT,if_pos e]⟩
  ·rw [yT,if_neg e]
   exact Fp (by simpa using hl) ((List.mem_cons.mp h).resolve_left fun z=>e z.symm)
noncomputable abbrev PK:List T->Option T:=cg 5 1 (jZ 100 gS dv cv bS bW dh eu Ky rY wO wQ wU wR)
theorem Ot {ps:.bH}{r:.cr}(h:Gp ps r):∃L,PK [.lst .c2]=some (.lst L):=by
 have hN:(sx ps).length≤24:=by
  have:=h.len
  have:(cT ps).length≤ps.length:=List.length_filter_le ..
  rw [zah]
  omega
 obtain⟨ord,g1,g2,g3,g4⟩:=zu h 100 [] zby (fun w hw=>by cases hw) (by rw [List.length_nil];omega)
 have hp:∀w∈sx ps,w∈ord:=fun w hw=>by
  obtain⟨p,hp,rfl⟩:=zao.mp hw
  exact AZ h g3 _ p hp rfl
 have hlen:=sub_len (Bs h) hp
 have hlen2:=sub_len g1 g2
 let gv:List Nat->T:=fun n=>(yT ((sx ps).map S) ((cT ps).map Pt.obj) (S n)).getD .non
 refine⟨ord.map gv,ck rfl ?_⟩
 show jZ 100 gS dv cv bS bW dh eu Ky rY wO wQ wU wR .ez=_
 have e:jZ 100 gS dv cv bS bW dh eu Ky rY wO wQ wU wR=(aF (bA 1 (jq 1 [] .eQ (ai 0) (cq .cb) (cS [dv,cv,bS,bW] "name" (ae 0)) (ae 0)))
  (aF (bA 2 (jq 2 [1] (iZ (ae 1)) .a1 aS (ae 0) (.ak (.ae 1))))
  (aF (bX 3 au) (aF (bA 4 P2) (aF (cU (cq (ae 4)) P1 100)
  (aF (bZ (cw (ar Gm (sk 3 (.h cn 3)) (.h vB 1))) gD bH)
  (bj (bF 1 [1] (aZ (ae 3)) (ai 0) aS (.c fG 1 0))))))))):=rfl
 rw [e,aO (bV (τ2:=.ed) (QQ h) rfl),aO (bV (τ2:=[s .D,s .de,s (D2 ps),none,none]) (QR h) rfl),
  aO (show bX 3 au [s .D,s .de,s (D2 ps),none,none]=some (.nx (uB ps [] none)) from rfl),aO (bV (τ2:=uB ps [] (s (bY (free ps [])))) (CT h (fun w hw=>by cases hw) none .cf) rfl),aO g4]
 have hv:sk 3 (.h cn 3) (uB ps ord (s (bY [])))=some (.int (ord.length:Nat),uB ps ord (s (bY []))):=by
  unfold sk
  show ((ao cn (bM 3) [s .D,s .de,s (D2 ps),s .eV,s (bY [])]).bind _)=_
  rw [aA [bY ord] .bf (kT (ls:=ord)),zaa]
  rfl
 have hc:cw (ar Gm (sk 3 (.h cn 3)) (.h vB 1)) (uB ps ord (s (bY [])))=some (false,uB ps ord (s (bY []))):=fF (aH hv (aA [D1 ps] .bf (show vB [D1 ps]=some (.int ((sx ps).map S).length) from rfl)) (by
  show some (T.bl (decide ((ord.length:Int)<(((sx ps).map S).length:Nat))))=_
  rw [zah,decide_eq_false .e]))
 rw [aO (cH hc)]
 have hx:∀n∈ord,fG .de (tx n)=some (gv n):=fun n hn=>by
  obtain⟨v,e1⟩:=Fp (k:=S n) (ns:=(sx ps).map S) (ts:=(cT ps).map Pt.obj) .h (sL.mpr (g2 n hn))
  show yT _ _ (S n)=_
  show _=some ((yT ((sx ps).map S) ((cT ps).map Pt.obj) (S n)).getD .non)
  rw [e1]
  rfl
 refine bR (τ':=[s .D,s .de,s (D2 ps),s .eV,s (bY [])]) ?_
 unfold bF
 rw [show aZ (ae 3) (uB ps ord (s (bY [])))=some (ord.map tx,[s .D,s .de,s (D2 ps),s .eV,s (bY [])]) from rfl,zaa]
 show (if bL [none,s .de]=true then (eD _ _ _ (ord.map tx) [none,s .de] []).bind _ else none)=_
 rw [if_pos (show bL [none,s .de]=true from rfl),dQ (φ:=tx) (g:=gv) (ρ:=[s .de]) rfl ord none [] (fun n hn=>aH rfl rfl (hx n hn)) .a9]
 rfl
theorem Br {t:FS}{fr:Addr->FI}{x:Addr}{τ τ1:aD}{ns:.Y}{us:List T}(h:t τ=some (.nx τ1))(ha:bL τ1=true)(h0:τ1[0]? = some (fQ (.ptr x))):Ek t fr x τ ns us=fr x τ1 ns us:=by
 unfold Ek
 rw [h,zaa]
 dsimp only
 rw [if_pos ha,h0]
 exact if_pos rfl
theorem Cv {f:FE}{τ τ':aD}{t:T}(h:f τ=some (t,τ')):vG f τ=some (.nx τ'):=by
 unfold vG
 rw [h]
 rfl
abbrev Nv:List T->Option rh:=dI 3 1 (ei gS dv cv bS bW dh eu IM PQ PM PK)
noncomputable abbrev Ii:List Str:=([]:List Str)++[Str.ofString "whole"]++[Str.ofString "all_parts"]++[Str.ofString "in_parts"]++[Str.ofString "cell_parts"]++[Str.ofString "out_parts"]++[Str.ofString "inner_parts"]
theorem SM:¬ Str.ofString "all_parts"∈(([]:List Str)++[Str.ofString "whole"]:List Str):=.c
theorem SN:¬ Str.ofString "in_parts"∈(([]:List Str)++[Str.ofString "whole"]++[Str.ofString "all_parts"]:List Str):=.c
theorem SQ:¬ Str.ofString "cell_parts"∈(([]:List Str)++[Str.ofString "whole"]++[Str.ofString "all_parts"]++[Str.ofString "in_parts"]:List Str):=.c
theorem SR:¬ Str.ofString "out_parts"∈(([]:List Str)++[Str.ofString "whole"]++[Str.ofString "all_parts"]++[Str.ofString "in_parts"]++[Str.ofString "cell_parts"]:List Str):=.c
theorem SU:¬ Str.ofString "inner_parts"∈(([]:List Str)++[Str.ofString "whole"]++[Str.ofString "all_parts"]++[Str.ofString "in_parts"]++[Str.ofString "cell_parts"]++[Str.ofString "out_parts"]:List Str):=.c
theorem FR {f:Pt->Bool}{ft:FT}{ps:.bH}{τ:aD}(h1:∀p,ft [s p.obj]=some (f p,[s p.obj]))(h:aZ (ae 2) τ=some (ps.map Pt.obj,τ))(hl:ps.length≤900):bF 1 [] (aZ (ae 2)) (ai 0) ft (ae 0) τ=some (.lst ((ps.filter f).map Pt.obj),τ):=
 dk h rfl rfl (oh (ρ:=[]) rfl h1 ps none [] .a9 .cf)
theorem Pu {ps:.bH}{r:.cr}(h:Gp ps r):∃L,Nv [tx (textOf ps)]=some (Ii,[tx (textOf ps),.tup .c2,.tup ((ps.filter Pt.isIn).map Pt.obj),.tup ((ps.filter Pt.isCell).map Pt.obj),.tup ((ps.filter Pt.isOut).map Pt.obj),.tup L]):=by
 have hl:=h.len
 have h0:ps≠[]:=fun e=>by
  have:=h.ins.1
  rw [e] at this
  simp at this
 obtain⟨L,hL⟩:=Ot h
 refine⟨L,vA ⟨rfl,fun x=>?_⟩⟩
 show ei gS dv cv bS bW dh eu IM PQ PM PK x [fQ (.ptr x),s .cy,none] [] []=_
 unfold ei
 rw [Br (τ1:=[fQ (.ptr x),s .cy,s .D]) (bV (.ac (MH h0 h.ok hl)) rfl) rfl rfl,
  Br (τ1:=[fQ (.ptr x),s .cy,s .D]) (Cv (.ac (O1 h))) rfl rfl,
  Br (τ1:=[fQ (.ptr x),s .cy,s .D]) (Cv (.ac (OX h))) rfl rfl,
  fT (t:=tx (textOf ps)) rfl rfl ⟨zap,.f⟩ rfl,
  fT (t:=.tup .c2) (.ac rfl) rfl ⟨SM,zag rfl⟩ rfl,
  fT (t:=.tup ((ps.filter Pt.isIn).map Pt.obj)) (aA _ (bJ (FR (f:=Pt.isIn) (fun p=>ee (K0 rfl) rfl) rfl .e)) rfl) rfl ⟨SN,zag rfl⟩ rfl,
  fT (t:=.tup ((ps.filter Pt.isCell).map Pt.obj)) (aA _ (bJ (FR (f:=Pt.isCell) (fun p=>ee (KY rfl) rfl) rfl .e)) rfl) rfl ⟨SQ,zag rfl⟩ rfl,
  fT (t:=.tup ((ps.filter Pt.isOut).map Pt.obj)) (aA _ (bJ (FR (f:=Pt.isOut) (fun p=>ee (GA rfl) rfl) rfl .e)) rfl) rfl ⟨SR,zag rfl⟩ rfl,
  fT (t:=.tup L) (aA _ (bJ (.ac hL)) rfl) rfl ⟨SU,zag rfl⟩ rfl]
 rfl
abbrev Ls:List T->Option T:=cg 1 1 (fN eu)
theorem Q0:¬ Str.ofString "parts"∈Ii:=.c
theorem QI {a b:T}{r:List T}:Ea (Str.ofString "all_parts") Ii (a::b::r)=some b:=by
 unfold Ii
 show (if Str.ofString "all_parts" = Str.ofString "whole" then some a else if Str.ofString "all_parts" = Str.ofString "all_parts" then some b else _)=_
 rw [if_neg .c,if_pos rfl]
theorem OU {a:T}{L:List T}{r:List T}:Ls [.obj eu Ii (a::.tup L::r)]=some (.lst L):=by
 refine ck rfl ?_
 show fN eu .dn=_
 unfold fN
 have hf:cS [eu] "all_parts" (ae 0) .dn=some (.tup L,.dn):=by
  unfold cS
  rw [show ae 0 .dn=some (.obj eu Ii (a::.tup L::r),.dn) from rfl,zaa]
  dsimp only
  rw [if_pos .cn,QI]
  rfl
 exact bR (aA _ (bJ hf) rfl)
def MM:Nat:=10^30
structure Bv (v:Rat):Prop where
 n:v.num.natAbs≤MM
 d:v.den≤MM
def Nx (b:Bool)(v:Rat):Rat:=if b then v else -v
def BY (t b:Int)(sg:Bool)(v:Rat):Int×Int:=(t*v.den+lu sg*v.num*b,b*v.den)
theorem HQ {t b:Int}{sg:Bool}{v:Rat}(hb:0<b):Rat.divInt (BY t b sg v).1 (BY t b sg v).2=Rat.divInt t b+Nx sg v/\0<(BY t b sg v).2:=by
 have hd:=den_pos v
 refine⟨?_,zbL hb hd⟩
 have e:Rat.divInt (lu sg*v.num) v.den=Nx sg v:=by
  unfold lu Nx
  cases sg with
  |true =>
   rw [if_pos rfl,if_pos rfl,Int.one_mul,gF]
  |false =>
   rw [if_neg .f,if_neg .f,Int.neg_one_mul]
   exact gF (-v)
 rw [<- e,Rat.divInt_add_divInt _ _ (zb4 hb) (zb4 hd)]
 rfl
def KK (k:Nat):Nat:=(2*MM)^k
theorem Iy (k:Nat):KK (k+1)=KK k*MM+MM*KK k:=by
 unfold KK
 rw [zb3,Nat.mul_comm MM,<- Nat.add_mul,<- Nat.mul_two,Nat.mul_assoc]
theorem HP {t b:Int}{sg:Bool}{v:Rat}{k:Nat}(hv:Bv v)(ht:t.natAbs≤KK k)(hb:b.natAbs≤KK k):(BY t b sg v).1.natAbs≤KK (k+1)/\(BY t b sg v).2.natAbs≤KK (k+1):=by
 have hd:((v.den:Nat):Int).natAbs≤MM:=hv.d
 have hs:(lu sg).natAbs=1:=by cases sg<;>rfl
 have h1:(t*v.den).natAbs≤KK k*MM:=by rw [zaI];exact zbz ht hd
 have h2:(lu sg*v.num*b).natAbs≤MM*KK k:=by rw [zaI,zaI,hs,Nat.one_mul];exact zbz hv.n hb
 have h3:(b*v.den).natAbs≤KK k*MM:=by rw [zaI];exact zbz hb hd
 rw [Iy]
 unfold BY
 exact⟨.e,.e⟩
theorem KC:KK 4<C:=.c
theorem KB:KK 6<B:=.c
theorem MC:100*MM<C:=.c
theorem MB:100*MM<B:=.c
theorem n0 {a b:Nat}(h:a≤b):KK a≤KK b:=Nat.pow_le_pow_right .f h
theorem Bv.sm {v:Rat}(h:Bv v):Sm v:=⟨by have:=h.n;have:=MC;omega,by have:=h.d;have:=MC;omega⟩
theorem MQ {t b:Int}(hb:0<b)(ht:t.natAbs≤KK 4)(hb2:b.natAbs≤KK 4):Sm (Rat.divInt t b):=by
 have:=Be (a:=t) hb
 have:=KC
 exact⟨.e,.e⟩
def sums (val:List Nat->Rat)(a:Rat)(ts:.d6):Rat:=ts.foldl (fun a t=>a+Nx t.1 (val t.2)) a
def Pt.told (val:List Nat->Rat):Pt->Rat
 | .inp n=>val n
 | .cell _ w=>val w
 | .gain _ q w=>q*val w
 | .sum _ ts=>sums val 0 ts
 | .out w=>val w
def Pt.eyes:Pt->List .ce
 | .inp n=>[n]
 |p=>p.ws
abbrev Ni:List T->Option T:=cg 2 2 (qL Js)
theorem QV {x y:Rat}(hx:Sm x)(hy:Sm y):Ni [cF x,cF y]=some (cF (x + -y)):=by
 refine ck rfl ?_
 show qL Js [s (cF x),s (cF y)]=_
 unfold qL
 have hn:Sm (-y):=⟨by rw [Rat.neg_num,Int.natAbs_neg];exact hy.n,by rw [Rat.neg_den];exact hy.d⟩
 refine bR (aA _ (cu (t:=cF x) (u:=cF (-y)) rfl ?_) (K3 hx hn))
 have:cF (-y)=.tup [.int (-y.num),.int (y.den:Int)]:=by unfold cF;rw [Rat.neg_num,Rat.neg_den]
 rw [this]
 refine gu (cu ?_ .Z)
 unfold ux
 rw [aH (a:=cF y) (b:=.int 0) (t:=.int y.num) rfl rfl rfl]
 rfl
abbrev DZ:List T->Option T:=cg 2 2 mV
abbrev Bb:List T->Option T:=cg 2 2 (p8 dv cv bS bW)
abbrev A9:List T->Option T:=cg 2 2 (mR cv bS dh)
abbrev Ba:List T->Option T:=cg 2 2 (mT bS cv dh P6)
abbrev Bd:List T->Option T:=cg 5 2 (ib bW Js Ni)
abbrev Bc:List T->Option T:=cg 2 2 (n9 cv bS dh)
abbrev PF:List .aN:=[(gS,DZ),(dv,Bb),(cv,A9),(bS,Ba),(bW,Bd),(dh,Bc)]
abbrev dT:Pt->List T->Option T
 | .inp _=>Bb
 | .cell _ _=>A9
 | .gain _ _ _=>Ba
 | .sum _ _=>Bd
 | .out _=>Bc
theorem Lz (p:Pt):ou p.cls PF=some (dT p):=by cases p<;>rfl
structure Dv (ns:.Y)(ts:List T)(val:List Nat->Rat)(ws:.U):Prop where
 lk:∀w∈ws,yT ns ts (S w)=some (cF (val w))
 bd:∀w∈ws,Bv (val w)
variable {ns:.Y}{ts:List T}{val:List Nat->Rat}
theorem jo {w:.I}{fd fk:FE}{τ τ1 τ2:aD}{ws:.U}(h:Dv ns ts val ws)(hw:w∈ws)(h1:fd τ=some (.dct ns ts,τ1))(h2:fk τ1=some (tx w,τ2)):ar fG fd fk τ=some (cF (val w),τ2):=aH h1 h2 (h.lk w hw)
def Qi:FS:=(bA 2 (vH (cw (.a eJ 3 1)) (ao Js (.c 2 (.c fG 1 4))) (ao Ni (.c 2 (.c fG 1 4)))))
theorem DG (o:T):∀(us:.d6) (t b:Int) (k:Nat) (x3 x4:.aW),Dv ns ts val (us.map (·.2))->0<b->t.natAbs≤KK k->b.natAbs≤KK k->k+us.length≤4->∃y3 y4,cQ .fm Qi (us.map gq) [s o,s .ae,s (cF (Rat.divInt t b)),x3,x4]=some (.nx [s o,s .ae,s (cF (sums val (Rat.divInt t b) us)),y3,y4])
 |[],t,b,k,x3,x4,_,_,_,_,_=>⟨x3,x4,rfl⟩
 |u::us,t,b,k,x3,x4,hd,hb,ht,hb2,hk=>by
  rw [zaj] at hk
  have hv:=hd.bd u.2 (zao.mpr ⟨u,zad,rfl⟩)
  obtain⟨e1,e2⟩:=HQ (t:=t) (sg:=u.1) (v:=val u.2) hb
  obtain⟨b1,b2⟩:=HP (sg:=u.1) hv ht hb2
  obtain⟨y3,y4,h2⟩:=DG o us (BY t b u.1 .eg).1 (BY t b u.1 .eg).2 (k+1) (s (.j (lu u.1))) (s (tx u.2)) ⟨fun w hw=>hd.lk w (zae _ hw),fun w hw=>hd.bd w (zae _ hw)⟩ e2 b1 b2 .e
  rw [e1] at h2
  refine⟨y3,y4,?_⟩
  have hs:Sm (Rat.divInt t b):=MQ hb (zaA ht (n0 .e)) (zaA hb2 (n0 .e))
  have hB:Qi .aQ=some (.nx [s o,s .ae,s (cF (Rat.divInt t b+Nx u.1 .eg)),s (.j (lu u.1)),s (tx u.2)]):=by
   unfold Qi
   have hc:cw (.a eJ 3 1) .aQ=some (u.1,.aQ):=fF (aH rfl rfl (by cases u.1<;>rfl))
   refine bV (t:=cF (Rat.divInt t b+Nx u.1 .eg)) (τ1:=.aQ) ?_ rfl
   have hg:ar fG (ae 1) (ae 4) .aQ=some (cF .eg,.aQ):=jo hd (zao.mpr ⟨u,zad,rfl⟩) rfl rfl
   cases hu:u.1 with
   |true =>
    rw [hu] at hc hg
    rw [vN hc]
    exact aA _ (cu rfl hg) (K3 hs hv.sm)
   |false =>
    rw [hu] at hc hg
    rw [Gy hc]
    exact aA _ (cu rfl hg) (QV hs hv.sm)
  rw [zaf,cK rfl hB,h2]
  rfl
theorem zero_div:Rat.divInt 0 1=0:=by rw [Rat.zero_divInt]
theorem Rz {p:Pt}(h:p.Ok)(hd:.fu):dT p [p.obj,.dct ns ts]=some (cF (p.told val)):=by
 cases p with
 |inp n=>exact ck rfl (bR (jo hd (w:=n) .cn rfl rfl))
 |cell n w=>exact ck rfl (bR (jo hd (w:=w) .cn rfl rfl))
 |out w=>exact ck rfl (bR (jo hd (w:=w) .cn rfl rfl))
 |gain n q w =>
  have hq:Sm q:=⟨zay h.2.2.1 .c,zay h.2.2.2 .c⟩
  exact ck rfl (bR (aA _ (cu rfl (jo hd (w:=w) .cn rfl rfl)) (OC hq (hd.bd w .cn).sm)))
 |sum n us =>
  obtain⟨y3,y4,h2⟩:=DG (Pt.sum n us).obj us 0 1 0 none none hd .f .f .f (by have:=h.2.1;omega)
  rw [zero_div] at h2
  refine ck rfl ?_
  show ib bW Js Ni [s (Pt.sum n us).obj,s .ae,none,none,none]=_
  have e:ib bW Js Ni=aF (bA 2 .eZ) (aF (fz .fw .fm Qi) (bj (ae 2))):=rfl
  rw [e,aO (show bA 2 .eZ [s (Pt.sum n us).obj,s .ae,none,none,none]=some (.nx [s (Pt.sum n us).obj,s .ae,s (cF 0),none,none]) from rfl),aO (iH rfl h2)]
  rfl
theorem DE {p:Pt}(h:p.Ok)(hd:.fu){fo:FE}{i:Nat}{τ:aD}(ho:fo τ=some (p.obj,τ))(hi:τ[i]? = some (s .ae)):dP PF "tells" fo (.ay (ae i)) τ=some (cF (p.told val),τ):=Mv Q2 ho (Lz p) (bJ (uf hi)) (Rz h hd)
variable {ns:.Y}{ts:List T}{val:List Nat->Rat}
abbrev Nb:List T->Option T:=cg 7 2 (jX iJ)
def PX:FS:=(aF (bA 2 (.c fG 1 6))
  (aF (bA 3 (ar aR (.V 3 1) (ar cG (.V 5 0) (ae 4))))
  (bA 4 (.V 4 1))))
theorem Q4 (v:Rat):bz (cF v) (.j 0)=some (.int v.num):=rfl
theorem Qc (v:Rat):bz (cF v) (.j 1)=some (.j (v.den:Int)):=rfl
theorem NG {a:Int}{k:Nat}(h:a.natAbs≤KK k)(hk:k≤6):a.natAbs<B:=zay (zaA h (n0 hk)) KB
theorem Bv.nB {v:Rat}(h:Bv v):v.num.natAbs<B:=by have:=h.n;have:=MB;omega
theorem Bv.dB {v:Rat}(h:Bv v):((v.den:Nat):Int).natAbs<B:=by have:=h.d;have:=MB;omega
theorem Cw (o:T):∀(us:.d6) (t b:Int) (k:Nat) (x2 x5 x6:.aW),Dv ns ts val (us.map (·.2))->0<b->t.natAbs≤KK k->b.natAbs≤KK k->k+us.length≤4->∃t' b' y2 y5 y6,0<b'/\t'.natAbs≤KK 4/\b'.natAbs≤KK 4/\Rat.divInt t' b'=sums val (Rat.divInt t b) us /\
  cQ (bK (.a 5 6)) PX (us.map gq) [s o,s .ae,x2,s (.j t),s (.j b),x5,x6]=some (.nx [s o,s .ae,y2,s (.j t'),s (.j b'),y5,y6])
 |[],t,b,k,x2,x5,x6,_,hb,ht,hb2,hk=>⟨t,b,x2,x5,x6,hb,Nat.le_trans ht (n0 (by simpa using hk)),Nat.le_trans hb2 (n0 (by simpa using hk)),rfl,rfl⟩
 |u::us,t,b,k,x2,x5,x6,hd,hb,ht,hb2,hk=>by
  rw [zaj] at hk
  have hv:=hd.bd u.2 (zao.mpr ⟨u,zad,rfl⟩)
  obtain⟨e1,e2⟩:=HQ (t:=t) (sg:=u.1) (v:=val u.2) hb
  obtain⟨b1,b2⟩:=HP (sg:=u.1) hv ht hb2
  obtain⟨t',b',y2,y5,y6,q1,q2,q3,q4,h2⟩:=Cw o us (BY t b u.1 .eg).1 (BY t b u.1 .eg).2 (k+1) (s (cF .eg)) (s (.j (lu u.1))) (s (tx u.2)) ⟨fun w hw=>hd.lk w (zae _ hw),fun w hw=>hd.bd w (zae _ hw)⟩ e2 b1 b2 .e
  rw [e1] at q4
  refine⟨t',b',y2,y5,y6,q1,q2,q3,q4,?_⟩
  have bB:=mO
  have sB:(lu u.1).natAbs<B:=by
   have:(lu u.1).natAbs=1:=by cases u.1<;>rfl
   omega
  have sn:(lu u.1*(val u.2).num).natAbs<B:=by
   have:(lu u.1).natAbs=1:=by cases u.1<;>rfl
   rw [zaI,this,Nat.one_mul]
   exact hv.nB
  have hB:PX [s o,s .ae,x2,s (.j t),s (.j b),s (.j (lu u.1)),s (tx u.2)]=some (.nx [s o,s .ae,s (cF .eg),s (.int (BY t b u.1 .eg).1),s (.int (BY t b u.1 .eg).2),s (.j (lu u.1)),s (tx u.2)]):=by
   unfold PX
   rw [aO (bV (τ2:=[s o,s .ae,s (cF .eg),s (.j t),s (.j b),s (.j (lu u.1)),s (tx u.2)]) (jo hd (zao.mpr ⟨u,zad,rfl⟩) rfl rfl) rfl),
    aO (bV (τ2:=[s o,s .ae,s (cF .eg),s (.int (BY t b u.1 .eg).1),s (.j b),s (.j (lu u.1)),s (tx u.2)]) (aH (aH rfl (.s (Qc _)) (jP (NG ht .e) hv.dB)) (aH (aH rfl (.s (Q4 _)) (jP sB hv.nB)) rfl (jP sn (NG hb2 .e))) eE) rfl)]
   exact bV (t:=.int (BY t b u.1 .eg).2) (τ1:=[s o,s .ae,s (cF .eg),s (.int (BY t b u.1 .eg).1),s (.j b),s (.j (lu u.1)),s (tx u.2)]) (aH rfl (.s (Qc _)) (jP (NG hb2 .e) hv.dB)) rfl
  rw [zaf,cK rfl hB,h2]
theorem N3 {p:Pt}(h:p.Ok)(hd:.fu):Nb [p.law,.dct ns ts]=some (cF (p.told val)):=by
 have bB:=mO
 refine ck rfl ?_
 show jX iJ [s p.law,s .ae,none,none,none,none,none]=_
 unfold jX
 by_cases hi:p.kind=[105,110]
 ·match p,hi,h,hd with
  | .inp n,_,h,hd =>
   refine jR ?_
   rw [nC .cF]
   exact bR (jo hd (w:=n) .cn rfl .Z)
 ·rw [aO (cH (by rw [bO rfl mQ n5,decide_eq_false hi]))]
  by_cases hg:p.kind=[103,97,105,110]
  ·match p,hg,h,hd with
   | .gain n q w,_,h,hd =>
    have hv:=hd.bd w .cn
    refine jR ?_
    rw [nC .eD,aO (bV (τ2:=[s (Pt.gain n q w).law,s .ae,s (cF (val w)),none,none,none,none]) (jo hd (w:=w) .cn rfl .Z) rfl)]
    have qn:q.num.natAbs<B:=by have:=h.2.2.1;omega
    have qd:((q.den:Nat):Int).natAbs<B:=by have:=h.2.2.2;omega
    have pn:(q.num*(val w).num).natAbs<B:=by
     rw [zaI]
     exact zay (zbz (zaA h.2.2.1 (by decide:99≤100)) hv.n) MB
    have pd:((q.den:Int)*((val w).den:Int)).natAbs<B:=by
     rw [zaI]
     exact zay (zbz (show ((q.den:Nat):Int).natAbs≤100 by have:=h.2.2.2;omega) (show (((val w).den:Nat):Int).natAbs≤MM from hv.d)) MB
    refine bR (aA _ (cu (t:=.int (q.num*(val w).num)) (u:=.int ((q.den:Int)*((val w).den:Int))) (aH (aH (a:=cF q) .Z rfl (Q4 q)) (.s (Q4 (val w))) (jP qn hv.nB)) (aH (aH (a:=cF q) .Z rfl (Qc q)) (.s (Qc (val w))) (jP qd hv.dB))) ?_)
    rw [zP pn pd (zbL (den_pos q) (den_pos (val w))),mul_eq]
    rfl
  ·rw [aO (cH (by rw [bO rfl iP ji,decide_eq_false hg]))]
   by_cases hu:p.kind=[115,117,109]
   ·match p,hu,h,hd with
    | .sum n us,_,h,hd =>
     obtain⟨t',b',y2,y5,y6,q1,q2,q3,q4,h2⟩:=Cw (ns:=ns) (ts:=ts) (val:=val) (Pt.sum n us).law us 0 1 0 none none none hd .f .f .f (by have:=h.2.1;omega)
     rw [zero_div] at q4
     unfold PX at h2
     refine jR ?_
     rw [nC .dg,aO (show kj (cZ (.e (az 0) (az 1))) (vM (.a 3 4)) [s (Pt.sum n us).law,s .ae,none,none,none,none,none]=some (.nx .dh) from rfl)]
     rw [aO (iH (show aZ .ds .dh=some (us.map gq,.dh) from rfl) h2)]
     refine bR (aA _ .b1 ?_)
     rw [LY (NG q2 .f) (NG q3 .f) q1,q4]
     rfl
   ·rw [aO (cH .fB)]
    cases p with
    |inp n=>exact absurd rfl hi
    |gain n q w=>exact absurd rfl hg
    |sum n us=>exact absurd rfl hu
    |cell n w=>exact bR (jo hd (w:=w) .cn rfl .aH)
    |out w=>exact bR (jo hd (w:=w) .cn rfl .aH)
theorem iY {f:FE}{fs:List FE}{a b:.I}{τ:aD}(h:f τ=some (tx b,τ))(hl:a.length+b.length≤1000):qt (f::fs) (S a) τ=qt fs (S (a++b)) τ:=by
 rw [qt,h,zaa]
 dsimp only
 rw [Cg,if_pos (by rw [cj,zai];exact aW hl)]
theorem nX {f:FE}{b:.I}{τ:aD}(h:f τ=some (tx b,τ))(hl:b.length≤1000):vg f τ=some (tx b,τ):=by
 unfold vg
 rw [h,zaa]
 dsimp only
 rw [if_pos (by rw [cj];exact aW hl)]
theorem CI {fs:List FE}{r:.I}{τ:aD}(h:qt fs (S []) τ=some (S r,τ)):yZ fs τ=some (tx r,τ):=by
 unfold yZ
 rw [show Str.empty=S [] from rfl,h]
 rfl
abbrev IL:List T->Option T:=cg 1 1 p9
abbrev Ft:List T->Option T:=cg 1 1 (vm dv cv bS bW)
abbrev Fq:List T->Option T:=cg 1 1 (p0 dv cv bS bW dh)
noncomputable abbrev Fs:List T->Option T:=cg 1 1 (p7 dv cv bS bW dh Nk)
abbrev Fv:List T->Option T:=cg 1 1 (jW dv cv bS bW)
abbrev Fu:List T->Option T:=cg 1 1 (rC cv bS dh)
noncomputable abbrev QC:List .aN:=[(gS,IL),(dv,Ft),(cv,Fq),(bS,Fs),(bW,Fv),(dh,Fu)]
noncomputable abbrev dR:Pt->List T->Option T
 | .inp _=>Ft
 | .cell _ _=>Fq
 | .gain _ _ _=>Fs
 | .sum _ _=>Fv
 | .out _=>Fu
theorem Ly (p:Pt):ou p.cls QC=some (dR p):=by cases p<;>rfl
theorem Rc {p:Pt}(h:p.Ok):dR p [p.obj]=some (tx p.row):=by
 have hl:=Pt.row_len h
 cases p with
 |inp n =>
  have hn:=h.2.1
  refine ck rfl (bR (CI ?_))
  rw [iY (dO Po _) .h,iY (b:=n) (nX rfl .e) .j]
  simp [qt,Pt.row,Pt.kind,Pt.args,jl]
 |cell n w =>
  have hn:=h.1.2.1
  have hw:=h.2.2.1
  refine ck rfl (bR (CI ?_))
  rw [iY (dO Kl _) .h,iY (b:=n) (nX rfl .e) .j,iY (dO yw _) .j,iY (b:=w) (nX rfl .e) .j]
  simp [qt,Pt.row,Pt.kind,Pt.args,jl]
 |gain n q w =>
  have hn:=h.1.2.1
  have hw:=h.2.1.2.1
  have hs:=yl h.2.2
  refine ck rfl (bR (CI ?_))
  rw [iY (dO DC _) .h,iY (b:=n) (nX rfl .e) .j,iY (dO yw _) .j,iY (b:=gN q.num q.den) (nX (aA [cF q] .bf (K7 (a:=q.num) (b:=q.den) (Nat.lt_of_le_of_lt h.2.2.1 .c) (Nat.lt_of_le_of_lt h.2.2.2 .c))) .e) .j,iY (dO yw _) .j,iY (b:=w) (nX rfl .e) .j]
  simp [qt,Pt.row,Pt.kind,Pt.args,jl]
 |out w =>
  have hw:w.length≤8:=h.2.1
  refine ck rfl (bR (CI ?_))
  rw [iY (dO MW _) .h,iY (b:=w) (nX rfl .e) .j]
  simp [qt,Pt.row,Pt.kind,Pt.args,jl]
 |sum n us =>
  have hk:=h.2.1
  refine ck rfl ?_
  show jW dv cv bS bW [s (Pt.sum n us).obj]=_
  unfold jW
  have hc:bF 2 [] .fw .a1 aS .eA [s (Pt.sum n us).obj]=some (bY (us.map kU),[s (Pt.sum n us).obj]):=by
   refine dk (ts:=us.map gq) rfl rfl rfl ?_
   rw [zaz,show us.map (tx ∘ kU)=[]++us.map fun t=>tx (kU t) from rfl]
   refine iF (φ:=fun t:Bool×List Nat=>T.int (lu t.1)) (ψ:=fun t=>tx t.2) rfl us none none [] (fun t ht=>?_) .a9
   have hw:=(h.2.2 t ht).2.1
   have hcn:cw (.a eJ 0 1) .fD=some (t.1,.fD):=fF (aH rfl rfl (by cases t.1<;>rfl))
   cases ht:t.1 with
   |true =>
    rw [ht] at hcn
    refine (vN hcn).trans ?_
    unfold kU
    rw [ht]
    rfl
   |false =>
    rw [ht] at hcn
    refine (Gy hcn).trans ?_
    unfold kU
    rw [ht]
    exact n6 (dO pe _) rfl .j
  have ha:ar aR (eR (.e .cV (cS [dv,cv,bS,bW] "name" (ae 0)))) (bF 2 [] .fw .a1 aS .eA) [s (Pt.sum n us).obj]=some (bY ((Pt.sum n us).kind::(Pt.sum n us).args),[s (Pt.sum n us).obj]):=
   aH (lO (cu (dO jT _) (nD (n:=n) rfl rfl)) .ef) hc (by
    rw [oB (by rw [List.length_map,List.length_map];exact aW .j)]
    rfl)
  exact bR (aH (dO yw _) ha (GF 32 (by have:=(Pt.len_args h).1;rw [zaj];omega)))
theorem O2 {p:Pt}(h:p.Ok){fo:FE}{τ τ1:aD}(ho:fo τ=some (p.obj,τ1)):dP QC "row" fo au τ=some (tx p.row,τ1):=Mv Q1 ho (Ly p) (wX _) (Rc h)
mutual
theorem eqv_refl:∀d:PyData,d.canLay0=true->PyData.eqv d d=true
 | .none,_=>by simp [PyData.eqv]
 | .bool _,_=>by simp [PyData.eqv]
 | .int _,_=>by simp [PyData.eqv]
 | .str _,_=>by simp [PyData.eqv]
 | .list xs,h=>by
  simp only [PyData.canLay0] at h
  simp only [PyData.eqv]
  exact eqvAll_refl xs h
 | .tuple xs,h=>by
  simp only [PyData.canLay0] at h
  simp only [PyData.eqv]
  exact eqvAll_refl xs h
 | .dict _,h=>by simp [PyData.canLay0] at h
theorem eqvAll_refl:∀ds:List PyData,PyData.canLayAll0 ds=true->PyData.eqvAll ds ds=true
 |[],_=>by simp [PyData.eqvAll]
 |d::ds,h=>by
  simp only [PyData.canLayAll0,Bool.and_eq_true] at h
  simp only [PyData.eqvAll,eqv_refl d h.1,eqvAll_refl ds h.2,Bool.and_self]
end
def Iq (n:Nat)(t:T):Prop:=∃d,wm t=some d/\d.canLay0=true/\d.depth≤n
theorem Dp {n:Nat}:∀{ts:List T},(∀x∈ts,Iq n x)->∃ds,pW ts=some ds/\PyData.canLayAll0 ds=true/\PyData.depthAll ds≤n
 |[],_=>⟨[],rfl,rfl,za6 _⟩
 |t::ts,h=>by
  obtain⟨d,h1,h2,h3⟩:=h t zad
  obtain⟨ds,g1,g2,g3⟩:=Dp fun x hx=>h x (zae _ hx)
  refine⟨d::ds,by simp only [pW,h1,g1,Option.bind_some],by simp only [PyData.canLayAll0,h2,g2,Bool.and_self],by simp only [PyData.depthAll];omega⟩
theorem rd {n:Nat}{ts:List T}(h:∀x∈ts,Iq n x):Iq (n+1) (.tup ts):=by
 obtain⟨ds,h1,h2,h3⟩:=Dp h
 exact⟨.tuple ds,by simp only [wm,h1,Option.map_some],by simp only [PyData.canLay0,h2],by simp only [PyData.depth];omega⟩
theorem jE {l:.I}(h:nh l):Iq 0 (tx l):=⟨.str (S l),rfl,Rj h,zak _⟩
theorem Dq (i:Int):Iq 0 (.j i):=⟨.int i,rfl,rfl,zak _⟩
theorem Dr (q:Rat):Iq 1 (cF q):=rd fun x hx=>by
 simp only [List.mem_cons,List.not_mem_nil,or_false] at hx
 rcases hx with rfl | rfl<;>exact Dq _
theorem cmp_self {neg:Bool}{t:T}{n:Nat}(h:Iq n t)(hn:n≤60):zo neg t t=some (.bl (!neg)):=by
 obtain⟨d,h1,h2,h3⟩:=h
 have hs:SeqAt.shaped d=true:=by
  unfold SeqAt.shaped
  rw [h2,zbn]
  exact decide_eq_true .e
 unfold zo
 rw [h1,zaa,zaa,if_pos ⟨hs,hs⟩,eqv_refl d h2]
 cases neg<;>rfl
theorem Kc {ts:.d6}(h:∀t∈ts,nh t.2):Iq 2 (.tup (ts.map gq)):=rd fun x hx=>by
 obtain⟨t,ht,rfl⟩:=zao.mp hx
 refine rd fun y hy=>?_
 simp only [List.mem_cons,List.not_mem_nil,or_false] at hy
 rcases hy with rfl | rfl
 ·exact Dq _
 ·exact jE (h t ht)
abbrev NR:List T->Option T:=cg 5 4 (eZ gS dv cv bS bW dh eu Kz IL Ft Fq Fs Fv Fu rY wO wQ wU wR DZ Bb A9 Ba Bd Bc)
variable {ns:.Y}{ts:List T}{val:List Nat->Rat}
theorem ne_self {f g:FE}{τ:aD}{t:T}{n:Nat}(h:.fz)(h':g τ=some (t,τ))(hs:Iq n t)(hn:n≤60):cw (ar qg f g) τ=some (false,τ):=fF (aH h h' (cmp_self (neg:=true) hs hn))
theorem eq_self {f g:FE}{τ:aD}{t:T}{n:Nat}(h:.fz)(h':g τ=some (t,τ))(hs:Iq n t)(hn:n≤60):ar eJ f g τ=some (.bl true,τ):=aH h h' (cmp_self (neg:=false) hs hn)
theorem Ow {p:Pt}{fo:FE}{τ τ1:aD}(h:fo τ=some (p.obj,τ1)):fA [(gS,true),(dv,true),(cv,true),(bS,true),(bW,true),(dh,true),(eu,false)] fo τ=some (.bl true,τ1):=by
 unfold fA
 rw [h]
 cases p<;>rfl
theorem J6 {p:Pt}(h:p.Ok):nh p.row:=fun c hc=>(Pt.row_mem h hc).2
theorem Ok.wsA {p:Pt}(h:p.Ok):∀w∈p.ws,nh w:=by
 intro w hw
 cases p with
 |inp n=>cases hw
 |cell n v=>rw [zac.mp hw];exact h.2.asc
 |gain n q v=>rw [zac.mp hw];exact h.2.1.asc
 |out v=>rw [zac.mp hw];exact pY.asc h
 |sum n us =>
  obtain⟨t,ht,rfl⟩:=zao.mp hw
  exact (h.2.2 t ht).asc
theorem Gr {p:Pt}(h:p.Ok)(d v:T):(aF (bA 4 (cZ (.ay (ar bz (ae 1) (.Q lJ (.h cn 1))))))
  (aF (bZ (.u .b8 .dQ) (bA 4 (cZ au)) bH)
  (bZ (.u .b8 .cV) (bA 4 (.m gh (bF 2 [] (aZ (.a bz 1 2)) (bK  (.a 0 1) ) aS (ae 1)))) bH)))
  [s p.obj,s p.law,s d,s v,none]=some (.nx [s p.obj,s p.law,s d,s v,s (.tup (p.ws.map tx))]):=by
 have last:∃t,cZ (.ay (ar bz (ae 1) (.Q lJ (.h cn 1)))) [s p.obj,s p.law,s d,s v,none]=some (.tup [t],[s p.obj,s p.law,s d,s v,none])/\(p.kind≠[105,110]->p.kind≠[115,117,109]->T.tup [t]=.tup (p.ws.map tx)):=by
  cases p with
  |inp n=>exact⟨tx n,gu (bJ .aH),fun e=>absurd rfl e⟩
  |cell n w=>exact⟨tx w,gu (bJ .aH),fun _ _=>rfl⟩
  |gain n q w=>exact⟨tx w,gu (bJ .aH),fun _ _=>rfl⟩
  |sum n us=>exact⟨.tup (us.map gq),gu (bJ .aH),fun _ e=>absurd rfl e⟩
  |out w=>exact⟨tx w,gu (bJ .aH),fun _ _=>rfl⟩
 obtain⟨t,e1,e2⟩:=last
 rw [aO (bV (τ2:=[s p.obj,s p.law,s d,s v,s (.tup [t])]) e1 rfl)]
 by_cases hi:p.kind=[105,110]
 ·match p,hi with
  | .inp n,_ =>
   rw [aO ((nC .cF).trans (bV (τ2:=[s (Pt.inp n).obj,s (Pt.inp n).law,s d,s v,s (.tup [])]) (gu (wX _)) rfl))]
   exact cH .dg
 ·rw [aO (cH (by rw [bO rfl mQ n5,decide_eq_false hi]))]
  by_cases hu:p.kind=[115,117,109]
  ·match p,hu,h with
   | .sum n us,_,h =>
    rw [nC .dg]
    have hc:bF 2 [] (aZ (.a bz 1 2)) .a1 aS (ae 1) [s (Pt.sum n us).obj,s (Pt.sum n us).law,s d,s v,s (.tup [t])]=some (.lst (us.map fun t=>tx t.2),[s (Pt.sum n us).obj,s (Pt.sum n us).law,s d,s v,s (.tup [t])]):=by
     refine dk (ts:=us.map gq) rfl rfl rfl ?_
     exact iF (φ:=fun t:Bool×List Nat=>T.int (lu t.1)) (ψ:=fun t=>tx t.2) (g:=fun t=>tx t.2) rfl us none none [] (fun t ht=>rfl) (by simpa using aW (by have:=h.2.1;omega))
    refine bV (t:=.tup (us.map fun t=>tx t.2)) (aA _ (bJ hc) rfl) ?_
    rw [show (Pt.sum n us).ws.map tx=us.map fun t=>tx t.2 by show (us.map (·.2)).map tx=_;rw [zaz];rfl]
    rfl
  ·rw [cH .fB,e2 hi hu]
theorem seq_assoc {a b c d:FS}{τ τ':aD}(h:aF a (aF b c) τ=some (.nx τ')):aF a (aF b (aF c d)) τ=d τ':=by
 unfold aF at *
 cases ea:a τ with
 |none=>rw [ea] at h;cases h
 |some ra =>
  rw [ea,zaa] at h
  rw [zaa]
  cases ra with
  |nx τ1 =>
   dsimp only at h ⊢
   cases eb:b τ1 with
   |none=>rw [eb] at h;cases h
   |some rb =>
    rw [eb,zaa] at h
    rw [zaa]
    cases rb with
    |nx τ2 =>
     dsimp only at h ⊢
     rw [h]
     rfl
    |_=>cases h
  |_=>cases h
theorem Oi {p:Pt}(h:p.Ok)(hd:.fu):NR [p.obj,p.law,.dct ns ts,cF (p.told val)]=some .bK:=by
 refine ck rfl ?_
 show eZ gS dv cv bS bW dh eu Kz IL Ft Fq Fs Fv Fu rY wO wQ wU wR DZ Bb A9 Ba Bd Bc [s p.obj,s p.law,s .ae,s (cF (p.told val)),none]=_
 unfold eZ
 rw [seq_assoc (Gr h _ _)]
 have c1:=ng (ee (Ow (p:=p) (fo:=ae 0) (τ:=.S) rfl) (b:=true) rfl)
 have c2:cw (ar qg (dP QC "row" (ae 0) au) (.h Kz 1)) .S=some (false,.S):=ne_self (O2 h rfl) (.ac (Cy h)) (jE (J6 h)) .f
 rw [aO (cH (la c1 c2))]
 have c3:ar eJ (.ae 0) (ae 4) .S=some (.bl true,.S):=eq_self (n:=1) (yC h rfl) rfl (rd fun x hx=>by
  obtain⟨w,hw,rfl⟩:=zao.mp hx
  exact jE (Ok.wsA h w hw)) .f
 have c4:ar eJ (dP PF "tells" (ae 0) (bM 2)) (ae 3) .S=some (.bl true,.S):=eq_self (DE h hd rfl rfl) rfl (Dr _) .f
 exact bR (by rw [jV c3,c4])
abbrev NP:List T->Option T:=cg 8 3 (gd dv cv bS bW dh NR Nr Np Nq Nu Nt)
theorem HM {p:Pt}{w:.I}(h:Ea (Str.ofString "source") p.flds p.vals=some (tx w))(hc:p.cls∈[cv,bS,dh]){fo:FE}{τ τ1:aD}(ho:fo τ=some (p.obj,τ1)):cS [cv,bS,dh] "source" fo τ=some (tx w,τ1):=by
 unfold cS
 rw [ho,G2,zaa]
 dsimp only
 rw [if_pos hc,h]
 rfl
theorem NK {p:Pt}(h:p.Ok)(hd:.fu):NP [p.law,.dct ns ts,cF (p.told val)]=some .bK:=by
 have hg:=Oi h hd
 refine ck rfl ?_
 show gd dv cv bS bW dh NR Nr Np Nq Nu Nt [s p.law,s .ae,s (cF (p.told val)),none,none,none,none,none]=_
 unfold gd
 generalize NR=dG at *
 cases p with
 |inp n =>
  refine jR ?_
  rw [nC .cF,aO (bV (t:=(Pt.inp n).obj) (τ2:=[s (Pt.inp n).law,s .ae,s (cF ((Pt.inp n).told val)),s (Pt.inp n).obj,none,none,none,none]) (sM (bJ .Z) (KS (tx n))) rfl)]
  exact bR (by rw [jV (eq_self (t:=tx n) (nD rfl rfl) .Z (jE (pY.asc h)) .f),aA _ (DO rfl rfl rfl rfl) hg])
 |cell n w =>
  rw [aO (cH .cF)]
  refine jR ?_
  rw [nC (by rw [bO rfl jG lA];rfl),aO (bV (t:=(Pt.cell n w).obj) (τ2:=[s (Pt.cell n w).law,s .ae,s (cF ((Pt.cell n w).told val)),none,s (Pt.cell n w).obj,none,none,none]) (sM (cu .Z .Z) (KQ (tx n) (tx w))) rfl)]
  exact bR (by rw [jV (eq_self (t:=tx n) (nD rfl rfl) .Z (jE h.1.asc) .f),jV (eq_self (t:=tx w) (HM (p:=.cell n w) rfl (show cv∈[cv,bS,dh] by decide) rfl) .Z (jE h.2.asc) .f),aA _ (DO rfl rfl rfl rfl) hg])
 |gain n q w =>
  rw [aO (cH .cF),aO (cH (by rw [bO rfl jG lA];rfl))]
  refine jR ?_
  rw [nC .eD,aO (bV (t:=(Pt.gain n q w).obj) (τ2:=[s (Pt.gain n q w).law,s .ae,s (cF ((Pt.gain n q w).told val)),none,none,s (Pt.gain n q w).obj,none,none]) (sM (A0 .Z .Z .Z) (KR (tx n) (cF q) (tx w))) rfl),
   aO (cH (la (ne_self (t:=tx n) (nD rfl rfl) .Z (jE h.1.asc) .f) (la (ne_self (t:=cF q) (show cS [bS] "by" (ae 5) _=_ from rfl) .Z (Dr q) .f) (ne_self (t:=tx w) (HM (p:=.gain n q w) rfl (show bS∈[cv,bS,dh] by decide) rfl) .Z (jE h.2.1.asc) .f))))]
  exact bR (aA _ (DO rfl rfl rfl rfl) hg)
 |sum n us =>
  rw [aO (cH .cF),aO (cH (by rw [bO rfl jG lA];rfl)),aO (cH .eD)]
  refine jR ?_
  rw [nC .dg,aO (bV (t:=(Pt.sum n us).obj) (τ2:=[s (Pt.sum n us).law,s .ae,s (cF ((Pt.sum n us).told val)),none,none,none,s (Pt.sum n us).obj,none]) (sM (cu .Z .Z) (KW (tx n) (.tup (us.map gq)))) rfl)]
  exact bR (by rw [jV (eq_self (t:=tx n) (nD rfl rfl) .Z (jE h.1.asc) .f),jV (eq_self (t:=.tup (us.map gq)) (show cS [bW] "terms" (ae 6) _=_ from rfl) .Z (Kc fun t ht=>(h.2.2 t ht).asc) .f),aA _ (DO rfl rfl rfl rfl) hg])
 |out w =>
  rw [aO (cH .cF),aO (cH (by rw [bO rfl jG lA];rfl)),aO (cH .eD),aO (cH .dg),
   aO (bV (t:=(Pt.out w).obj) (τ2:=[s (Pt.out w).law,s .ae,s (cF ((Pt.out w).told val)),none,none,none,none,s (Pt.out w).obj]) (sM (bJ .Z) (KU (tx w))) rfl)]
  exact bR (by rw [jV (eq_self (t:=tx w) (HM (p:=.out w) rfl (show dh∈[cv,bS,dh] by decide) rfl) .Z (jE (pY.asc h)) .f),aA _ (DO rfl rfl rfl rfl) hg])
theorem OT:(.aa 30)=fun τ=>some .dl:=by funext τ;kernel_rfl
theorem NH:MM=1000000000000000000000000000000:=.c
theorem RZ:4*MM<B:=.c
abbrev Nl:List T->Option T:=cg 2 1 (il rW iJ)
theorem Lk {a b:Int}(h0:0<b)(ha:a.natAbs≤MM)(hb:b.natAbs≤MM):Bv (Rat.divInt a b):=by
 have:=Be (a:=a) h0
 exact⟨.e,.e⟩
theorem Bn (a b:Int):TM.lJ (.j a) (.j b)=some (.j (a-b)):=rfl
theorem FK (c:Int):∃v:Rat,Bv v/\Nl [.int c]=some (cF v):=by
 have bB:=mO
 have mB:=RZ
 have mE:=NH
 have h3:cw (ar eJ (.a dM 0 3) (az 0)) [s .ai,none]=some (decide (c.fmod 3=0),[s .ai,none]):=fF (aH (.s (lQ .f)) rfl (gQ _ _))
 have hd:ar eO (ae 0) (az 3) [s .ai,none]=some (.int (c.fdiv 3),[s .ai,none]):=aH rfl rfl (rZ .f .e)
 have main:∀(b0 b1:Nat) (f:FA) (z:Int),Ir [b0,b1]->f [s .ai,none]=some ([br b0,br b1],[s .ai,none])->b0≤2*MM->b1<MM->(∀d:Nat,d<b0->((d:Int)-z).natAbs≤MM)->∀gz:FE,(∀τ,gz τ=some (.int z,τ)) ->
   ∃v:Rat,Bv v/\(aF (bA 1 (ao rW (.e (.a eO 0 3) (eR f)))) (bj (ao iJ (.e (ar lJ .b8 gz) (ar aR (az 1) .b2))))) [s .ai,none]=some (.rt (cF v)):=by
  intro b0 b1 f z hB hf h0 h1 hz gz hgz
  obtain⟨dg,e1,e2⟩:=jL (c.fdiv 3) hB .ef
  match dg,e2 with
  |[d0,d1],e2 =>
   obtain⟨g0,g1,_⟩:=e2
   have hz0:=hz d0 g0
   refine⟨Rat.divInt ((d0:Int)-z) (1+(d1:Int)),Lk .e hz0 .e,?_⟩
   rw [aO (bV (τ2:=[s .ai,s (nt [d0,d1])]) (aA _ (cu hd (lO hf .ef)) e1) rfl)]
   exact bR (aA _ (cu (t:=.int ((d0:Int)-z)) (u:=.int (1+(d1:Int))) (aH (a:=br d0) .Z (hgz _) rfl) (aH (b:=br d1) rfl .Z eE)) (LY .e .e .e))
  |[],e2=>exact e2.elim
  |[_],e2=>exact e2.2.elim
  |_::_::_::_,e2=>exact e2.2.2.elim
 have hres:∃v:Rat,Bv v/\il rW iJ [s .ai,none]=some (.rt (cF v)):=by
  unfold il
  rw [OT]
  by_cases h:c.fmod 3=0
  ·obtain⟨v,hv,e⟩:=main (2*MM-1) (MM-1) (.e (ar lJ (ar cG (az 2) (fun τ=>some .dl)) (az 1)) (ar lJ (fun τ=>some .dl) (az 1))) ((MM:Int)-1)
    (by intro x hx;simp only [List.mem_cons,List.not_mem_nil,or_false] at hx;omega)
    (cu (aH (.s (jP .e .e)) rfl (by rw [Bn];congr 2<;>omega)) (aH rfl rfl (by rw [Bn];congr 2<;>omega)))
    (by omega) .e (fun d hd=>by omega) (ar lJ (fun τ=>some .dl) (az 1)) (fun τ=>aH rfl rfl (by rw [Bn];congr 2<;>omega))
   refine⟨v,hv,jR ?_⟩
   rw [nC (by rw [h3,decide_eq_true h])]
   exact e
  ·obtain⟨v,hv,e⟩:=main 19999 9999 (.e (az 19999) (az 9999)) 9999
    (by intro x hx;simp only [List.mem_cons,List.not_mem_nil,or_false] at hx;omega)
    rfl .e .e (fun d hd=>by omega) (az 9999) (fun τ=>rfl)
   refine⟨v,hv,?_⟩
   rw [aO (cH (by rw [h3,decide_eq_false h]))]
   exact e
 obtain⟨v,hv,e⟩:=hres
 exact⟨v,hv,ck rfl e⟩
abbrev Al:=List (List Nat×Rat)
noncomputable abbrev pA (al:Al):List Str:=(al.map (·.1)).map S
abbrev rj (al:Al):List T:=al.map fun x=>cF x.2
def valOf (al:Al)(w:.I):Rat:=(al.lookup w).getD 0
theorem Ff {w:.I}{ms:.Y}{us:List T}:∀{al:Al},w∈al.map (·.1)->yT (pA al++ms) (rj al++us) (S w)=some (cF (valOf al w))/\∃x∈al,x.2=valOf al w
 |[],h=>by cases h
 |x::al,h=>by
  by_cases e:x.1=w
  ·have hv:valOf (x::al) w=x.2:=by
    unfold valOf
    rw [za0,e,beq_self_eq_true]
    rfl
   refine⟨?_,x,zad,hv.symm⟩
   rw [hv]
   show yT (S x.1::(pA al++ms)) (cF x.2::(rj al++us)) (S w)=_
   rw [yT,if_pos (by rw [e])]
  ·have hv:valOf (x::al) w=valOf al w:=by
    unfold valOf
    rw [za0,show (w == x.1)=false from beq_false_of_ne fun z=>e z.symm]
   obtain⟨h1,y,h2,h3⟩:=Ff (ms:=ms) (us:=us) (al:=al) ((zan.mp h).resolve_left fun z=>e z.symm)
   rw [hv]
   refine⟨?_,y,zae _ h2,h3⟩
   show yT (S x.1::(pA al++ms)) (cF x.2::(rj al++us)) (S w)=_
   rw [yT,if_neg (fun z=>e (Ci z)),h1]
noncomputable abbrev qp (sc:.dz)(t:T)(a:Addr)(x3 x4:.aW):aD:=[s (qX sc),s t,s (.ptr a),x3,x4,none,none,none,none]
theorem oP (sc:.dz)(t:T)(a:Addr)(x3 x4:.aW):mY 2 a (qp sc t a x3 x4)=true:=Nat.beq_refl a
def M5:FZ:=(La 2 (cw (ar qg (.a bz 4 0) (fC (.str "out")))) (uk 2 (.a bz 4 1) (.m Nl (.Y yH))) pj)
theorem GH (p:Pt):decide (p.kind=[111,117,116])=p.isOut:=by
 cases p with
 |out w=>exact decide_eq_true rfl
 |_=>exact decide_eq_false .b6
theorem Oy {p:Pt}{n:.I}(h:p.nm=some n):bz p.law (.j 1)=some (tx n):=by
 cases p with
 |out w=>cases h
 |_=>cases h;rfl
theorem yB (sc:.dz)(t:T):∀(ps:.bH) (k:Nat) (al:Al) (x3 x4:.aW),(al.map (·.1)++names ps).Nodup->(∀x∈al,Bv x.2)->k+ps.length≤100->al.length+ps.length≤100->∃(al':Al) (y3 y4:.aW),al'.map (·.1)=al.map (·.1)++names ps/\(∀x∈al',Bv x.2) /\
  ∀a,m6 2 .fm M5 (yI k .ej) a (pA al,rj al) (qp sc t a x3 x4)=some ((pA al',rj al'),qp sc t a y3 y4)
 |[],k,al,x3,x4,_,hb,_,_=>⟨al,x3,x4,.h,hb,fun a=>rfl⟩
 |p::ps,k,al,x3,x4,hn,hb,hk,hl=>by
  rw [zaj] at hk hl
  have bB:=mO
  have hc:∀a,cw (ar qg (.a bz 4 0) (fC (.str "out"))) .ei=some (!p.isOut,qp sc t a .aM .a0):=fun a=>fF (aH (.s (K1 p)) (dO DD _) (by rw [Gn (sE p) Kv,GH]))
  cases ho:p.isOut with
  |true =>
   have en:names (p::ps)=names ps:=zbs (He ho)
   obtain⟨al',y3,y4,g1,g2,g3⟩:=yB sc t ps (k+1) al .aM .a0 (by rw [<- en];exact hn) hb .e .e
   refine⟨al',y3,y4,by rw [en];exact g1,g2,fun a=>?_⟩
   have hc:=hc a
   rw [ho] at hc
   rw [zaf,yI,m6,show bK (.a 3 4) (.tup [br k,p.law]) (qp sc t a x3 x4)=some .ei from rfl,zaa,if_pos (oP sc t a _ _)]
   have hB:M5 a (pA al,rj al) .ei=some ((pA al,rj al),qp sc t a .aM .a0):=by
    unfold M5 La
    rw [hc,zaa]
    dsimp only
    rw [if_pos (oP sc t a _ _),if_neg .f]
    rfl
   rw [hB,zaa,g3]
  |false =>
   obtain⟨n,hnm⟩:=C8 ho
   have en:names (p::ps)=n::names ps:=zaZ hnm
   rw [en] at hn
   obtain⟨v,hv,ev⟩:=FK (sc.getD (14+k) 0+48271*(k:Int))
   have hnot:S n∉pA al:=by
    rw [sL]
    intro z
    exact (zaP.mp hn).2.2 n z n zad rfl
   obtain⟨al',y3,y4,g1,g2,g3⟩:=yB sc t ps (k+1) (al++[(n,v)]) .aM .a0 (by rw [zaH,zaO];exact hn) (fun x hx=>by
    rcases zaB.mp hx with hx | hx
    ·exact hb x hx
    ·rw [zac.mp hx];exact hv) .e .bB
   refine⟨al',y3,y4,by rw [g1,en,zaH,zaO];rfl,g2,fun a=>?_⟩
   have hc:=hc a
   rw [ho] at hc
   rw [zaf,yI,m6,show bK (.a 3 4) (.tup [br k,p.law]) (qp sc t a x3 x4)=some .ei from rfl,zaa,if_pos (oP sc t a _ _)]
   have hf:ao Nl (.ay (.Y yH)) .ei=some (cF v,qp sc t a .aM .a0):=
    aA _ (bJ (aH (aA _ (cu rfl (.s (jI (a:=14)))) (mD sc (14+k))) (.s (jP .e .e)) eE)) ev
   have hB:M5 a (pA al,rj al) .ei=some ((pA (al++[(n,v)]),rj (al++[(n,v)])),qp sc t a .aM .a0):=by
    unfold M5 La
    rw [hc,zaa]
    dsimp only
    rw [if_pos (oP sc t a _ _),if_pos (show (!false)=true from rfl)]
    unfold uk
    rw [hf,zaa]
    dsimp only
    rw [if_pos (oP sc t a _ _),show ar bz (ae 4) (az 1) .ei=some (tx n,qp sc t a .aM .a0) from aH rfl rfl (Oy hnm),zaa]
    dsimp only
    rw [if_pos ⟨oP sc t a _ _,bT (by rw [zah,zah];omega)⟩,qV (by rw [zah,zah,zah]) hnot]
    unfold pA rj
    simp
   rw [hB,zaa,g3]
abbrev Li:FS:=Fj eu gS dv cv bS bW dh NW yH NS Nl Nh Nb NP Ls DZ Bb A9 Ba Bd Bc Nv
theorem HY:Str.ofString "no name" = S [110,111,32,110,97,109,101]:=.c
theorem So (q:Rat):∃d,wm (cF q)=some d/\SeqAt.shaped d=true/\d.eqv d=true:=by
 obtain⟨d,h1,h2,h3⟩:=Dr q
 refine⟨d,h1,?_,eqv_refl d h2⟩
 unfold SeqAt.shaped
 rw [h2,zbn]
 exact decide_eq_true .e
theorem FC:∀l:List Rat,Bg (l.map cF) (l.map cF)=some true
 |[]=>rfl
 |q::l=>by
  obtain⟨d,h1,h2,h3⟩:=So q
  rw [zaf,Bg,h1,zaa,zaa,if_pos ⟨h2,h2⟩,FC l,zaa,h3]
  rfl
theorem J9:T.tup [.int 1,.int 7]=cF (Rat.divInt 1 7):=by
 have e:=oy (a:=1) (b:=7) .f
 rw [<- e]
 rfl
def P5:FS:=(aF (bA 7 (dP PF "tells" (ae 6) (bM 5)))
  (aF (.D (uq (iG (.ar 7)) (uq (cw (ar qg (.h cn 7) (az 2))) (cw (ar qg (ae 7) (ao Nb (.o 4 2)))))) (fC .Q))
  (aF (fz (aZ (ae 7)) (ai 8) .aR)
  (.D (iG (cq (ao NP (ag (ae 4) (.o 5 7))))) (fC .Q)))))
variable {ns:.Y}{ts:List T}{val:List Nat->Rat}
noncomputable abbrev uI (sc:.dz)(L:T)(ns:.Y)(ts:List T)(x3 x4 x6 x7 x8:.aW):aD:=[s (qX sc),s L,s .ae,x3,x4,s .ae,x6,x7,x8]
theorem Jr (sc:.dz)(L:T){p:Pt}(h:p.Ok)(hd:.fu)(x3 x7 x8:.aW):P5 (uI sc L ns ts x3 .a0 (s p.obj) x7 x8)=some (.nx (.p (s (.j .eu)))):=by
 unfold P5
 rw [aO (bV (τ2:=uI sc L ns ts x3 .a0 (s p.obj) (s .ap) x8) (DE h hd rfl rfl) rfl)]
 have c1:iG (.ar 7) (.p x8)=some .eC:=ng (ee (aA _ .b1 (mZ (ts:=[.int (p.told val).num,.int .eu]))) (b:=true) rfl)
 have c2:cw (ar qg (.h cn 7) (az 2)) (.p x8)=some .eC:=fF (aH (.ac rfl) rfl rfl)
 have c3:cw (ar qg (ae 7) (ao Nb (.o 4 2))) (.p x8)=some .eC:=ne_self rfl (aA _ .b1 (N3 h hd)) (Dr _) .f
 rw [aO (cH (la c1 (la c2 c3)))]
 have nb:∀(i:Int) (x:.aW),(.aR) (.p (s (.j i)))=some (.nx (.p (s (.j i)))):=fun i x=>cH (la (ng (ee (aA [.int i,.ty "int"] .b1 qi) (b:=true) rfl)) (ee (aA [.int i,.ty "bool"] .b1 oI) (b:=false) rfl))
 have hf:cQ (ai 8) .aR [.int (p.told val).num,.int .eu] (.p x8)=some (.nx (.p (s (.j .eu)))):=by
  rw [cK (τ1:=uI sc L ns ts x3 .a0 (s p.obj) (s .ap) (s (.int (p.told val).num))) rfl (nb _ none),cK (τ1:=uI sc L ns ts x3 .a0 (s p.obj) (s .ap) (s (.j .eu))) rfl (nb _ none)]
  rfl
 rw [aO (iH rfl hf)]
 exact cH (ng (ee (aA _ (A0 rfl rfl rfl) (NK h hd)) (b:=true) rfl))
theorem C4 (sc:.dz)(L:T):∀(ps:.bH) (x3 x4 x6 x7 x8:.aW),(∀p∈ps,p.Ok)->(∀p∈ps,Dv ns ts val p.eyes)->∃y4 y6 y7 y8,cQ (bK (.a 6 4)) P5 (ps.map fun p=>.tup [p.obj,p.law]) (uI sc L ns ts x3 x4 x6 x7 x8)=some (.nx (uI sc L ns ts x3 y4 y6 y7 y8))
 |[],x3,x4,x6,x7,x8,_,_=>⟨x4,x6,x7,x8,rfl⟩
 |p::ps,x3,x4,x6,x7,x8,h,hd=>by
  obtain⟨y4,y6,y7,y8,h2⟩:=C4 sc L ps x3 .a0 (s p.obj) (s .ap) (s (.j .eu)) (fun z hz=>h z (zae _ hz)) fun z hz=>hd z (zae _ hz)
  refine⟨y4,y6,y7,y8,?_⟩
  rw [zaf,cK rfl (Jr sc L (h p zad) (hd p zad) x3 x7 x8),h2]
theorem AQ:∀ps:List Pt,iQ .c2 .ej=ps.map fun p=>.tup [p.obj,p.law]
 |[]=>rfl
 |p::ps=>by rw [zaf,zaf,iQ,AQ ps,zaf]
theorem Ex {ps:.bH}(h:∀p∈ps,p.Ok):∀n∈names ps,pY n:=by
 intro n hn
 obtain⟨p,hp,e⟩:=zbt.mp hn
 have:=h p hp
 cases p with
 |inp m=>cases e;exact this
 |cell m w=>cases e;exact this.1
 |gain m q w=>cases e;exact this.1
 |sum m us=>cases e;exact this.1
 |out w=>cases e
theorem Cz {ps:.bH}{r:.cr}(h:Gp ps r){p:Pt}(hp:p∈ps):∀w∈p.eyes,w∈names ps:=by
 intro w hw
 cases p with
 |inp n =>
  rw [zac.mp hw]
  exact zbt.mpr ⟨_,hp,rfl⟩
 |cell n v=>exact h.ws _ hp w hw
 |gain n q v=>exact h.ws _ hp w hw
 |sum n us=>exact h.ws _ hp w hw
 |out v=>exact h.ws _ hp w hw
theorem Jz {ls:.U}(h:ls.Nodup):(ls.map S).Nodup:=zbU.mpr (h.imp fun hne e=>hne (Ci e))
theorem GN (sc:.dz)(hsc:sc.length≤63):cg 9 1 Li [.scr (sc.map T.int)]=some .bK:=by
 obtain⟨nm,a,b,o,m,is,e,hpn,ep⟩:=FJ sc
 have hgp:=hpn.gp
 obtain⟨ps,hperm,el⟩:=IS (sc.getD 3 0) (ps:=partsOf nm a b o is e) (by have:=hgp.len;omega)
 have hg:=hgp.perm hperm
 generalize J4 nm (a+1+b+m)=r at *
 have hl:=hg.len
 obtain⟨al,y3,y4,k1,k2,k3⟩:=yB sc .J ps 0 [] none none (by simpa using hg.nd) (fun x hx=>by cases hx) .e .j
 rw [zb0,zbf] at k1
 have nn:S [110,111,32,110,97,109,101]∉pA al:=by
  unfold pA
  rw [k1,sL]
  intro z
  have:=(Ex hg.ok _ z).2.2 32 .f
  omega
 have hal:al.length≤24:=by
  have h1:=congrArg List.length k1
  rw [zah] at h1
  have h2:(names ps).length≤ps.length:=List.length_filterMap_le ..
  omega
 obtain⟨L6,ew⟩:=Pu hg
 -- the dict
 have hdv:∀p∈ps,Dv .ay .aX (valOf al) p.eyes:=fun p hp=>⟨fun w hw=>(Ff (by rw [k1];exact Cz hg hp w hw)).1,fun w hw=>by
  obtain⟨x,hx,e⟩:=(Ff (ms:=[]) (us:=[]) (al:=al) (by rw [k1];exact Cz hg hp w hw)).2
  rw [<- e]
  exact k2 x hx⟩
 obtain⟨z4,z6,z7,z8,hloop⟩:=C4 sc .J ps y3 y4 none none none hg.ok hdv
 refine ck rfl ?_
 show Li [s (qX sc),none,none,none,none,none,none,none,none]=_
 have hb:Li=aF (bA 1 (ao NS (.e (ao NW (bM 0)) (ao yH (.c 0 (az 3))))))
  (qf 2 (mz (AN 2 (km (bM 1)) .fm M5) (mz (uk 2 (fC (.str "no name")) (cZ (.e (az 1) (az 7))))
  (zEnd 2 (aF (bA 5 (.h Cq 2)) (aF (fz (lH (ag (dP [(eu,Ls)] "parts" (hX eu Nv (.ay (.h Nh 1))) au) (bM 1))) (bK (.a 6 4)) P5) (bj (.c Gd 5 2))))))) ):=rfl
 rw [hb,aO (bV (t:=.lst .ej) (τ2:=[s (qX sc),s .J,none,none,none,none,none,none,none]) (aA _ (cu (.ac ep) (aA _ .b1 (mD sc 3))) el) rfl)]
 refine yY .ef fun p=>?_
 show mz _ _ p ([],[]) (qp sc .J p none none)=_
 unfold mz
 have z1:AN 2 (km (bM 1)) .fm M5 p ([],[]) (qp sc .J p none none)=some ((pA al,rj al),qp sc .J p y3 y4):=by
  unfold AN
  rw [show km (bM 1) (qp sc .J p none none)=some (yI 0 .ej,qp sc .J p none none) from rfl,zaa]
  dsimp only
  rw [if_pos (oP sc _ p _ _)]
  exact k3 p
 have z2:uk 2 (fC (.str "no name")) (cZ (.e (az 1) (az 7))) p (pA al,rj al) (qp sc .J p y3 y4)=some ((pA al++[S [110,111,32,110,97,109,101]],rj al++[.tup [.int 1,.int 7]]),qp sc .J p y3 y4):=by
  unfold uk
  rw [show cZ (.e (az 1) (az 7)) (qp sc .J p y3 y4)=some (.tup [.int 1,.int 7],qp sc .J p y3 y4) from gu .b1,zaa]
  dsimp only
  rw [if_pos (oP sc _ p _ _),dO HY,zaa]
  dsimp only
  rw [if_pos ⟨oP sc _ p _ _,bT (by rw [zah,zah];omega)⟩,qV (by rw [zah,zah,zah]) nn]
 rw [z1,zaa,z2,zaa]
 unfold zEnd
 show (aF _ _) [s (qX sc),s .J,s (.dct .ay .aX),y3,y4,none,none,none,none]=some (.rt .bK)
 rw [aO (bV (t:=.dct .ay .aX) (τ2:=uI sc .J .ay .aX y3 y4 none none none) (.ac rfl) rfl)]
 have hz:lH (ag (dP [(eu,Ls)] "parts" (hX eu Nv (.ay (.h Nh 1))) au) (bM 1)) (uI sc .J .ay .aX y3 y4 none none none)=some (ps.map fun p=>.tup [p.obj,p.law],uI sc .J .ay .aX y3 y4 none none none):=by
  have hm:=GR (alts:=[(eu,Ls)]) (m := "parts") (sM (C:=eu) (bJ (aA (f:=bM 1) (ρ:=uI sc .J .ay .aX y3 y4 none none none) _ .bf (IT hg.ok hl))) ew) Q0 rfl (wX _) OU
  unfold lH
  rw [cu hm rfl,zaa]
  show some (iQ .c2 .ej,_)=_
  rw [AQ]
 rw [aO (iH hz hloop)]
 have hq:Gd (.dct .ay .aX) (.dct .ay .aX)=some .bK:=by
  have hnd:(pA al++[S [110,111,32,110,97,109,101]]).Nodup:=by
   refine zaP.mpr ⟨?_,List.pairwise_singleton ..,fun x hx y hy e=>?_⟩
   ·unfold pA
    rw [k1]
    exact Jz hg.nd
   ·rw [zac.mp hy] at e
    exact nn (e ▸ hx)
  have hv:rj al++[.tup [.int 1,.int 7]]=(al.map (·.2)++[Rat.divInt 1 7]).map cF:=by
   rw [J9,zaH,zaz]
   rfl
  show (if _=_/\_ then (Bg _ _).map T.bl else none)=_
  rw [if_pos ⟨rfl,hnd⟩,hv,FC]
  rfl
 exact bR (.s hq)
open PySem PySem.Spec PyProof.Rows L2 TM
theorem fH {α:Type}{us:List α}(h:us.length=1):∃a,us=[a]:=List.length_eq_one_iff.mp h
theorem gU {α:Type}{us:List α}(h:us.length=2):∃a b,us=[a,b]:=by
 rcases us with _ | ⟨a,us⟩
 ·cases h
 ·obtain⟨b,rfl⟩:=fH (us:=us) .aC
  exact⟨a,b,rfl⟩
theorem Es {α:Type}{us:List α}(h:us.length=3):∃a b c,us=[a,b,c]:=by
 rcases us with _ | ⟨a,us⟩
 ·cases h
 ·obtain⟨b,c,rfl⟩:=gU (us:=us) .aC
  exact⟨a,b,c,rfl⟩
theorem OA {α:Type}{us:List α}(h:us.length=4):∃a b c d,us=[a,b,c,d]:=by
 rcases us with _ | ⟨a,us⟩
 ·cases h
 ·obtain⟨b,c,d,rfl⟩:=Es (us:=us) .aC
  exact⟨a,b,c,d,rfl⟩
def fo (s:Stmt)(nm qn:Str)(pm:Value)(c:Addr):Obj:=⟨.type "function", none,.func (PySem.W.fnOf nm qn (kh s) (ff s) (ax s) .none .none .none pm none (.c c) .none),#[]⟩
theorem fk {K:.l}(st:Stmt)(f c:Addr)(nm qn:Str)(pm:Value)(l:K.lookup f=some (fo st nm qn pm c))(h:PySem.W.codeIn K (.c c) qn=true):eK K nm qn st f (PySem.W.fnOf nm qn (kh st) (ff st) (ax st) .none .none .none pm none (.c c) .none):=LC l h (by unfold PySem.W.keepIn;dsimp only;rw [l];rfl)
abbrev NT:List T->Option T:=(cg 9 1 (Fj 599 337 372 412 452 488 528 (NW) (yH) (NS) (Nl) (Nh) (Nb) (NP) (Ls) (DZ) (Bb) (A9) (Ba) (Bd) (Bc) (Nv)))
set_option maxHeartbeats 0 in
theorem all_mk {w:World}{h:Heap}{mg:.G}{fa:Addr}(X:(kk w.params).In h)(G:h.Ns mainGlobals mg)(hfa:mg "law" = some (.c fa)):
  ∃fd:FuncData,(∀(s:Shared) (v:Value),BindsTo s fd ⟨[v],[]⟩ [("_law_script", v)])/\∀base:Heap,(kk w.params).In base->base.Ns mainGlobals mg->iz pg w .r mg base ur 10 fa fd ["_law_script"] (spT .r 1 NT):=by
 have mq:∀(x:Str) (v:Value),PySem.W.nsIn .r mainGlobals x=some .dw->mg x=some v:=fun x v e=>PySem.W.mg_of X G e
 have mn:∀x:Str,PySem.W.nsIn .r mainGlobals x=some none->mg x=none:=fun x e=>PySem.W.mg_none_of X G e
 have e:=hfa.symm.trans (mq "law" (.c 790) .a)
 cases e
 have a0:=fk (K:=kk w.params) lY 692 691 "_law_cell" "_law_cell" lP .a .a
 have b0:=a0.binds (ps:=.eX) (fun _ _ _ _ _ _ us hl=>by obtain⟨a,b,rfl⟩:=gU hl;rfl)
 have c0:=mq "_law_cell" (.c 692) .a
 have d0:=fk (K:=kk w.params) jx 699 698 "_law_digits" "_law_digits" lP .a .a
 have e0:=d0.binds (ps:=.bT) (fun _ _ _ _ _ _ us hl=>by obtain⟨a,b,rfl⟩:=gU hl;rfl)
 have f0:=mq "_law_digits" (.c 699) .a
 have g0:=fk (K:=kk w.params) kF 706 705 "_law_mixed" "_law_mixed" lP .a .a
 have i0:=g0.binds (ps:=.cI) (fun _ _ _ _ _ _ us hl=>by obtain⟨a,b,rfl⟩:=gU hl;rfl)
 have j0:=mq "_law_mixed" (.c 706) .a
 have k0:=fk (K:=kk w.params) kC 711 710 "_law_drawn" "_law_drawn" lP .a .a
 have l0:=k0.binds (ps:=.bT) (fun _ _ _ _ _ _ us hl=>by obtain⟨a,b,rfl⟩:=gU hl;rfl)
 have o0:=mq "_law_drawn" (.c 711) .a
 have q0:=fk (K:=kk w.params) kG 716 715 "_law_names" "_law_names" lP .a .a
 have r0:=q0.binds (ps:=.cI) (fun _ _ _ _ _ _ us hl=>by obtain⟨a,b,rfl⟩:=gU hl;rfl)
 have s0:=mq "_law_names" (.c 716) .a
 have t0:=fk (K:=kk w.params) lZ 723 722 "_law_frac" "_law_frac" lP .a .a
 have u0:=t0.binds (ps:=["_law_top","_law_bottom"]) (fun _ _ _ _ _ _ us hl=>by obtain⟨a,b,rfl⟩:=gU hl;rfl)
 have v0:=mq "_law_frac" (.c 723) .a
 have y0:=fk (K:=kk w.params) kE 730 729 "_law_inner" "_law_inner" lP .a .a
 have z0:=y0.binds (ps:=.fb) (fun _ _ _ _ _ _ us hl=>by obtain⟨a,b,c,rfl⟩:=Es hl;rfl)
 have a1:=mq "_law_inner" (.c 730) .a
 have b1:=fk (K:=kk w.params) kH 735 734 "_law_parts" "_law_parts" lP .a .a
 have c1:=b1.binds (ps:=["_law_script"]) (fun _ _ _ _ _ _ us hl=>by obtain⟨a,rfl⟩:=fH hl;rfl)
 have d1:=mq "_law_parts" (.c 735) .a
 have e1:=fk (K:=kk w.params) ma 740 739 "_law_laid" "_law_laid" lP .a .a
 have f1:=e1.binds (ps:=["_law_parts_here","_law_cell_here"]) (fun _ _ _ _ _ _ us hl=>by obtain⟨a,b,rfl⟩:=gU hl;rfl)
 have g1:=mq "_law_laid" (.c 740) .a
 have i1:=fk (K:=kk w.params) kI 764 763 "_law_value" "_law_value" lP .a .a
 have j1:=i1.binds (ps:=["_law_cell_here"]) (fun _ _ _ _ _ _ us hl=>by obtain⟨a,rfl⟩:=fH hl;rfl)
 have k1:=mq "_law_value" (.c 764) .a
 have l1:=fk (K:=kk w.params) gJ 747 746 "_law_frac_text" "_law_frac_text" lP .a .a
 have o1:=l1.binds (ps:=["_law_one"]) (fun _ _ _ _ _ _ us hl=>by obtain⟨a,rfl⟩:=fH hl;rfl)
 have q1:=mq "_law_frac_text" (.c 747) .a
 have r1:=fk (K:=kk w.params) nP 752 751 "_law_row" "_law_row" lP .a .a
 have s1:=r1.binds (ps:=["_law_part"]) (fun _ _ _ _ _ _ us hl=>by obtain⟨a,rfl⟩:=fH hl;rfl)
 have t1:=mq "_law_row" (.c 752) .a
 have u1:=fk (K:=kk w.params) md 757 756 "_law_text" "_law_text" lP .a .a
 have v1:=u1.binds (ps:=["_law_laid_here"]) (fun _ _ _ _ _ _ us hl=>by obtain⟨a,rfl⟩:=fH hl;rfl)
 have y1:=mq "_law_text" (.c 757) .a
 have z1:=fk (K:=kk w.params) nO 771 770 "_law_due" "_law_due" lP .a .a
 have a2:=z1.binds (ps:=["_law_part","_law_values"]) (fun _ _ _ _ _ _ us hl=>by obtain⟨a,b,rfl⟩:=gU hl;rfl)
 have b2:=mq "_law_due" (.c 771) .a
 have c2:=fk (K:=kk w.params) lX 320 319 "row" "Part.row" jd .a .a
 have d2:=c2.binds (ps:=.an) (fun _ _ _ _ _ _ us hl=>by obtain⟨a,rfl⟩:=fH hl;rfl)
 have e2:=fk (K:=kk w.params) pO 362 361 "row" "In.row" jd .a .a
 have f2:=e2.binds (ps:=.an) (fun _ _ _ _ _ _ us hl=>by obtain⟨a,rfl⟩:=fH hl;rfl)
 have g2:=fk (K:=kk w.params) lU 395 394 "row" "Cell.row" jd .a .a
 have i2:=g2.binds (ps:=.an) (fun _ _ _ _ _ _ us hl=>by obtain⟨a,rfl⟩:=fH hl;rfl)
 have j2:=fk (K:=kk w.params) pP 294 293 "figures" "figures" yL .a .a
 have k2:=j2.binds (ps:=["number"]) (fun _ _ _ _ _ _ us hl=>by obtain⟨a,rfl⟩:=fH hl;rfl)
 have l2:=mq "figures" (.c 294) .a
 have o2:=fk (K:=kk w.params) mj 287 286 "show_frac" "show_frac" yL .a .a
 have q2:=o2.binds (ps:=["one"]) (fun _ _ _ _ _ _ us hl=>by obtain⟨a,rfl⟩:=fH hl;rfl)
 have r2:=mq "show_frac" (.c 287) .a
 have s2:=fk (K:=kk w.params) lV 435 434 "row" "Gain.row" jd .a .a
 have t2:=s2.binds (ps:=.an) (fun _ _ _ _ _ _ us hl=>by obtain⟨a,rfl⟩:=fH hl;rfl)
 have u2:=fk (K:=kk w.params) nN 473 472 "row" "Sum.row" jd .a .a
 have v2:=u2.binds (ps:=.an) (fun _ _ _ _ _ _ us hl=>by obtain⟨a,rfl⟩:=fH hl;rfl)
 have y2:=fk (K:=kk w.params) nM 511 510 "row" "Out.row" jd .a .a
 have z2:=y2.binds (ps:=.an) (fun _ _ _ _ _ _ us hl=>by obtain⟨a,rfl⟩:=fH hl;rfl)
 have a3:=fk (K:=kk w.params) jw 327 326 "wants" "Part.wants" jd .a .a
 have b3:=a3.binds (ps:=.an) (fun _ _ _ _ _ _ us hl=>by obtain⟨a,rfl⟩:=fH hl;rfl)
 have c3:=fk (K:=kk w.params) js 402 401 "wants" "Cell.wants" jd .a .a
 have d3:=c3.binds (ps:=.an) (fun _ _ _ _ _ _ us hl=>by obtain⟨a,rfl⟩:=fH hl;rfl)
 have e3:=fk (K:=kk w.params) ju 442 441 "wants" "Gain.wants" jd .a .a
 have f3:=e3.binds (ps:=.an) (fun _ _ _ _ _ _ us hl=>by obtain⟨a,rfl⟩:=fH hl;rfl)
 have g3:=fk (K:=kk w.params) kB 478 477 "wants" "Sum.wants" jd .a .a
 have i3:=g3.binds (ps:=.an) (fun _ _ _ _ _ _ us hl=>by obtain⟨a,rfl⟩:=fH hl;rfl)
 have j3:=fk (K:=kk w.params) kz 518 517 "wants" "Out.wants" jd .a .a
 have k3:=j3.binds (ps:=.an) (fun _ _ _ _ _ _ us hl=>by obtain⟨a,rfl⟩:=fH hl;rfl)
 have l3:=fk (K:=kk w.params) jv 334 333 "tells" "Part.tells" jd .a .a
 have o3:=l3.binds (ps:=.ad) (fun _ _ _ _ _ _ us hl=>by obtain⟨a,b,rfl⟩:=gU hl;rfl)
 have q3:=fk (K:=kk w.params) lW 369 368 "tells" "In.tells" jd .a .a
 have r3:=q3.binds (ps:=.ad) (fun _ _ _ _ _ _ us hl=>by obtain⟨a,b,rfl⟩:=gU hl;rfl)
 have s3:=fk (K:=kk w.params) jr 409 408 "tells" "Cell.tells" jd .a .a
 have t3:=s3.binds (ps:=.ad) (fun _ _ _ _ _ _ us hl=>by obtain⟨a,b,rfl⟩:=gU hl;rfl)
 have u3:=fk (K:=kk w.params) MJ 216 215 "half" "half" P7 .a .a
 have v3:=u3.binds (ps:=.bS) (fun _ _ _ _ _ _ us hl=>by obtain⟨a,b,rfl⟩:=gU hl;rfl)
 have y3:=mq "half" (.c 216) .a
 have z3:=fk (K:=kk w.params) tw 209 208 "common" "common" P7 .a .a
 have a4:=z3.binds (ps:=.bS) (fun _ _ _ _ _ _ us hl=>by obtain⟨a,b,rfl⟩:=gU hl;rfl)
 have b4:=mq "common" (.c 209) .a
 have c4:=fk (K:=kk w.params) yd 280 279 "times" "times" yL .a .a
 have d4:=c4.binds (ps:=.bS) (fun _ _ _ _ _ _ us hl=>by obtain⟨a,b,rfl⟩:=gU hl;rfl)
 have e4:=mq "times" (.c 280) .a
 have f4:=fk (K:=kk w.params) jt 449 448 "tells" "Gain.tells" jd .a .a
 have g4:=f4.binds (ps:=.ad) (fun _ _ _ _ _ _ us hl=>by obtain⟨a,b,rfl⟩:=gU hl;rfl)
 have i4:=fk (K:=kk w.params) BQ 266 265 "plus" "plus" yL .a .a
 have j4:=i4.binds (ps:=.bS) (fun _ _ _ _ _ _ us hl=>by obtain⟨a,b,rfl⟩:=gU hl;rfl)
 have k4:=mq "plus" (.c 266) .a
 have l4:=fk (K:=kk w.params) yc 273 272 "minus" "minus" yL .a .a
 have o4:=l4.binds (ps:=.bS) (fun _ _ _ _ _ _ us hl=>by obtain⟨a,b,rfl⟩:=gU hl;rfl)
 have q4:=mq "minus" (.c 273) .a
 have r4:=fk (K:=kk w.params) kA 485 484 "tells" "Sum.tells" jd .a .a
 have s4:=r4.binds (ps:=.ad) (fun _ _ _ _ _ _ us hl=>by obtain⟨a,b,rfl⟩:=gU hl;rfl)
 have t4:=fk (K:=kk w.params) ky 525 524 "tells" "Out.tells" jd .a .a
 have u4:=t4.binds (ps:=.ad) (fun _ _ _ _ _ _ us hl=>by obtain⟨a,b,rfl⟩:=gU hl;rfl)
 have v4:=fk (K:=kk w.params) gK 776 775 "_law_made_good" "_law_made_good" lP .a .a
 have y4:=v4.binds (ps:=.dO) (fun _ _ _ _ _ _ us hl=>by obtain⟨a,b,c,d,rfl⟩:=OA hl;rfl)
 have z4:=mq "_law_made_good" (.c 776) .a
 have a5:=fk (K:=kk w.params) iK 355 354 "__init__" "In.__init__" jd .a .a
 have b5:=a5.binds (ps:=["self","name"]) (fun _ _ _ _ _ _ us hl=>by obtain⟨a,b,rfl⟩:=gU hl;rfl)
 have c5:=fk (K:=kk w.params) gG 388 387 "__init__" "Cell.__init__" jd .a .a
 have d5:=c5.binds (ps:=.eW) (fun _ _ _ _ _ _ us hl=>by obtain⟨a,b,c,rfl⟩:=Es hl;rfl)
 have e5:=fk (K:=kk w.params) gH 428 427 "__init__" "Gain.__init__" jd .a .a
 have f5:=e5.binds (ps:=.dN) (fun _ _ _ _ _ _ us hl=>by obtain⟨a,b,c,d,rfl⟩:=OA hl;rfl)
 have g5:=fk (K:=kk w.params) hR 468 467 "__init__" "Sum.__init__" jd .a .a
 have i5:=g5.binds (ps:=.fe) (fun _ _ _ _ _ _ us hl=>by obtain⟨a,b,c,rfl⟩:=Es hl;rfl)
 have j5:=fk (K:=kk w.params) hJ 504 503 "__init__" "Out.__init__" jd .a .a
 have k5:=j5.binds (ps:=["self","source"]) (fun _ _ _ _ _ _ us hl=>by obtain⟨a,b,rfl⟩:=gU hl;rfl)
 have l5:=fk (K:=kk w.params) iL 783 782 "_law_by_hand" "_law_by_hand" lP .a .a
 have o5:=l5.binds (ps:=.ff) (fun _ _ _ _ _ _ us hl=>by obtain⟨a,b,c,rfl⟩:=Es hl;rfl)
 have q5:=mq "_law_by_hand" (.c 783) .a
 have r5:=fk (K:=kk w.params) hU 556 555 "parts" "Wiring.parts" ql .a .a
 have s5:=r5.binds (ps:=.an) (fun _ _ _ _ _ _ us hl=>by obtain⟨a,rfl⟩:=fH hl;rfl)
 have t5:=fk (K:=kk w.params) pQ 646 645 "is_name" "is_name" ql .a .a
 have u5:=t5.binds (ps:=["word"]) (fun _ _ _ _ _ _ us hl=>by obtain⟨a,rfl⟩:=fH hl;rfl)
 have v5:=mq "is_name" (.c 646) .a
 have y5:=fk (K:=kk w.params) me 641 640 "are_names" "are_names" ql .a .a
 have z5:=y5.binds (ps:=["words","many"]) (fun _ _ _ _ _ _ us hl=>by obtain⟨a,b,rfl⟩:=gU hl;rfl)
 have a6:=mq "are_names" (.c 641) .a
 have b6:=fk (K:=kk w.params) kK 306 305 "is_figures" "is_figures" yL .a .a
 have c6:=b6.binds (ps:=["text"]) (fun _ _ _ _ _ _ us hl=>by obtain⟨a,rfl⟩:=fH hl;rfl)
 have d6:=mq "is_figures" (.c 306) .a
 have e6:=fk (K:=kk w.params) nR 252 251 "is_whole" "is_whole" yL .a .a
 have f6:=e6.binds (ps:=["thing"]) (fun _ _ _ _ _ _ us hl=>by obtain⟨a,rfl⟩:=fH hl;rfl)
 have g6:=mq "is_whole" (.c 252) .a
 have i6:=fk (K:=kk w.params) jy 259 258 "is_fraction" "is_fraction" yL .a .a
 have j6:=i6.binds (ps:=["thing"]) (fun _ _ _ _ _ _ us hl=>by obtain⟨a,rfl⟩:=fH hl;rfl)
 have k6:=mq "is_fraction" (.c 259) .a
 have l6:=fk (K:=kk w.params) mf 301 300 "read_frac" "read_frac" yL .a .a
 have o6:=l6.binds (ps:=["text"]) (fun _ _ _ _ _ _ us hl=>by obtain⟨a,rfl⟩:=fH hl;rfl)
 have q6:=mq "read_frac" (.c 301) .a
 have r6:=fk (K:=kk w.params) jz 631 630 "read_factor" "read_factor" ql .a .a
 have s6:=r6.binds (ps:=["text"]) (fun _ _ _ _ _ _ us hl=>by obtain⟨a,rfl⟩:=fH hl;rfl)
 have t6:=mq "read_factor" (.c 631) .a
 have u6:=fk (K:=kk w.params) mh 624 623 "read_gain" "read_gain" ql .a .a
 have v6:=u6.binds (ps:=["name","number","source"]) (fun _ _ _ _ _ _ us hl=>by obtain⟨a,b,c,rfl⟩:=Es hl;rfl)
 have y6:=mq "read_gain" (.c 624) .a
 have z6:=fk (K:=kk w.params) nS 636 635 "read_sum" "read_sum" ql .a .a
 have a7:=z6.binds (ps:=["name","words"]) (fun _ _ _ _ _ _ us hl=>by obtain⟨a,b,rfl⟩:=gU hl;rfl)
 have b7:=mq "read_sum" (.c 636) .a
 have c7:=fk (K:=kk w.params) mi 617 616 "read_part" "read_part" ql .a .a
 have d7:=c7.binds (ps:=["row"]) (fun _ _ _ _ _ _ us hl=>by obtain⟨a,rfl⟩:=fH hl;rfl)
 have e7:=mq "read_part" (.c 617) .a
 have f7:=fk (K:=kk w.params) kL 610 609 "read_parts" "read_parts" ql .a .a
 have g7:=f7.binds (ps:=["text"]) (fun _ _ _ _ _ _ us hl=>by obtain⟨a,rfl⟩:=fH hl;rfl)
 have i7:=mq "read_parts" (.c 610) .a
 have j7:=fk (K:=kk w.params) iM 653 652 "refuse_names" "refuse_names" ql .a .a
 have k7:=j7.binds (ps:=["parts"]) (fun _ _ _ _ _ _ us hl=>by obtain⟨a,rfl⟩:=fH hl;rfl)
 have l7:=mq "refuse_names" (.c 653) .a
 have o7:=fk (K:=kk w.params) hV 658 657 "refuse_counts" "refuse_counts" ql .a .a
 have q7:=o7.binds (ps:=["parts"]) (fun _ _ _ _ _ _ us hl=>by obtain⟨a,rfl⟩:=fH hl;rfl)
 have r7:=mq "refuse_counts" (.c 658) .a
 have s7:=fk (K:=kk w.params) kJ 668 667 "free_names" "free_names" ql .a .a
 have t7:=s7.binds (ps:=["wanted","order"]) (fun _ _ _ _ _ _ us hl=>by obtain⟨a,b,rfl⟩:=gU hl;rfl)
 have u7:=mq "free_names" (.c 668) .a
 have v7:=fk (K:=kk w.params) nQ 663 662 "in_order" "in_order" ql .a .a
 have y7:=v7.binds (ps:=["parts"]) (fun _ _ _ _ _ _ us hl=>by obtain⟨a,rfl⟩:=fH hl;rfl)
 have z7:=mq "in_order" (.c 663) .a
 have a8:=fk (K:=kk w.params) fV 542 541 "__init__" "Wiring.__init__" ql .a .a
 have b8:=a8.binds (ps:=["self","text"]) (fun _ _ _ _ _ _ us hl=>by obtain⟨a,b,rfl⟩:=gU hl;rfl)
 have c8:=fk (K:=kk w.params) we 790 789 "law" "law" lP .a .a
 have d8:=c8.binds (ps:=["_law_script"]) (fun _ _ _ _ _ _ us hl=>by obtain⟨a,rfl⟩:=fH hl;rfl)
 have e8:=mq "law" (.c 790) .a
 have f8:eC .r 372:=.bR
 have g8:=mq "In" (.c 372) .a
 have i8:eC .r 337:=.bR
 have j8:=mq "Part" (.c 337) .a
 have k8:eC .r 412:=.bR
 have l8:=mq "Cell" (.c 412) .a
 have o8:eC .r 452:=.bR
 have q8:=mq "Gain" (.c 452) .a
 have r8:eC .r 488:=.bR
 have s8:=mq "Sum" (.c 488) .a
 have t8:eC .r 528:=.bR
 have u8:=mq "Out" (.c 528) .a
 have v8:eC .r 599:=.bR
 have y8:=mq "Wiring" (.c 599) .a
 have z8:=mq "NoFraction" (.c 58) .a
 have a9:=mq "EchoError" (.c 38) .a
 have b9:Qo .r 58 [38] (none):=⟨lx.of .a,(.ao ⟨(vE),lx.of .a⟩)⟩
 have c9:AW .r 58 [(58,true)]:=⟨⟨.ref 38::vE,none,lx.of .a,.c⟩,(.ao ⟨_,_,b9.cls,.c⟩)⟩
 have d9:∀C∈([372,412,452,488]:List Addr),eC .r C/\bo .r C "name" := (zab.mpr ⟨⟨f8,(by kernel_rfl:PySem.W.findIn .r (.c 372) "name" = some none)⟩,(zab.mpr ⟨⟨k8,(by kernel_rfl:PySem.W.findIn .r (.c 412) "name" = some none)⟩,(zab.mpr ⟨⟨o8,(by kernel_rfl:PySem.W.findIn .r (.c 452) "name" = some none)⟩,(.ao ⟨r8,(by kernel_rfl:PySem.W.findIn .r (.c 488) "name" = some none)⟩)⟩)⟩)⟩)
 have e9:∀C∈([412,452,528]:List Addr),eC .r C/\bo .r C "source" := (zab.mpr ⟨⟨k8,(by kernel_rfl:PySem.W.findIn .r (.c 412) "source" = some none)⟩,(zab.mpr ⟨⟨o8,(by kernel_rfl:PySem.W.findIn .r (.c 452) "source" = some none)⟩,(.ao ⟨t8,(by kernel_rfl:PySem.W.findIn .r (.c 528) "source" = some none)⟩)⟩)⟩)
 have f9:∀C∈([452]:List Addr),eC .r C/\bo .r C "by" := (.ao ⟨o8,(by kernel_rfl:PySem.W.findIn .r (.c 452) "by" = some none)⟩)
 have g9:∀C∈([488]:List Addr),eC .r C/\bo .r C "terms" := (.ao ⟨r8,(by kernel_rfl:PySem.W.findIn .r (.c 488) "terms" = some none)⟩)
 have i9:∀a∈([(337,true),(372,true),(412,true),(452,true),(488,true),(528,true),(599,false)]:List .db),iA .r 337 a.1 a.2:=.x
 have j9:∀C∈([599]:List Addr),eC .r C/\bo .r C "all_parts" := (.ao ⟨v8,(by kernel_rfl:PySem.W.findIn .r (.c 599) "all_parts" = some none)⟩)
 have k9:∀a∈([(337,false),(372,false),(412,false),(452,false),(488,false),(528,true),(599,false)]:List .db),iA .r 528 a.1 a.2:=.x
 have l9:∀a∈([(337,false),(372,true),(412,false),(452,false),(488,false),(528,false),(599,false)]:List .db),iA .r 372 a.1 a.2:=.x
 have o9:∀a∈([(337,false),(372,false),(412,true),(452,false),(488,false),(528,false),(599,false)]:List .db),iA .r 412 a.1 a.2:=.x
 have hi2_Gain_Sum:∀a∈([(337,false),(372,false),(412,false),(452,true),(488,true),(528,false),(599,false)]:List .db),AS .r 452 488 a.1 a.2:=(zab.mpr ⟨⟨⟨_,⟨i8,.a,.a,.a,.a,rfl⟩⟩,.a⟩,(zab.mpr ⟨⟨⟨_,⟨f8,.a,.a,.a,.a,rfl⟩⟩,.a⟩,(zab.mpr ⟨⟨⟨_,⟨k8,.a,.a,.a,.a,rfl⟩⟩,.a⟩,(zab.mpr ⟨⟨⟨_,⟨o8,.a,.a,.a,.a,rfl⟩⟩,.a⟩,(zab.mpr ⟨⟨⟨_,⟨r8,.a,.a,.a,.a,rfl⟩⟩,.a⟩,(zab.mpr ⟨⟨⟨_,⟨t8,.a,.a,.a,.a,rfl⟩⟩,.a⟩,(.ao ⟨⟨_,⟨v8,.a,.a,.a,.a,rfl⟩⟩,.a⟩)⟩)⟩)⟩)⟩)⟩)⟩)
 have r9:=mn "len" .bW
 have s9:=mn "range" .bW
 have t9:=mn "zip" .bW
 have u9:=mn "int" .bW
 have v9:=mn "abs" .bW
 have y9:=mn "tuple" .bW
 have z9:=mn "str" .bW
 have a10:=mn "divmod" .bW
 have b10:=mn "isinstance" .bW
 have c10:=mn "list" .bW
 have d10:=mn "all" .bW
 have e10:=mn "bool" .bW
 have f10:=mn "enumerate" .bW
 have g10:=mn "min" .bW
 have i10:=mn "dict" .bW
 have j10:=mq "NOUGHT" (.c 245) .a
 have k10:(kk w.params).lookup 245=some .cY:=.a
 have l10:=mq "SHORT" (.int (4000) 420) .a
 have o10:=mq "LONGEST_NAME" (.int (8) 875) .a
 have q10:=mq "LETTERS" (.str "abcdefghijklmnopqrstuvwxyz" 873) .a
 have r10:=mq "MOST_FIGURES" (.int (30) 508) .a
 have s10:=mq "GREATEST_TOP" (.int (99) 879) .a
 have t10:=mq "GREATEST_BOTTOM" (.int (12) 881) .a
 have u10:=mq "MOST_TERMS" (.int (4) 877) .a
 have v10:=mq "MOST_ROWS" (.int (24) 883) .a
 have y10:=mq "MOST_CELLS" (.int (4) 885) .a
 have z10:=mq "MOST_LINES" (.int (2) 887) .a
 refine⟨PySem.W.fnOf "law" "law" (kh we) (ff we) (ax we) .none .none .none lP none (.c 789) .none,fun s v=>.of_eq rfl,fun base _ _=>?_⟩
 have a11:Def pg w .r mg base 1 "_law_cell" 2 (yH):=xR a0 b0 c0 r9
 have b11:Def pg w .r mg base 1 "_law_digits" 2 (PH):=sX d0 e0 f0 
 have c11:Def pg w .r mg base 1 "_law_mixed" 2 (NU):=uT g0 i0 j0 s9
 have d11:Def pg w .r mg base 2 "_law_drawn" 2 (rW):=uR k0 l0 o0 (b11.mono .f) (c11.mono .f) t9 r9
 have e11:Def pg w .r mg base 3 "_law_names" 2 (KA):=uU q0 r0 s0 (d11.mono .f) s9 u9
 have f11:Def pg w .r mg base 1 "_law_frac" 2 (iJ):=(xS (P:=pg) (w:=w) (base:=base) (k:=0) B t0 u0 v0 v9).imp AF
 have g11:Def pg w .r mg base 2 "_law_inner" 3 (Ng):=uS y0 z0 a1 (f11.mono .f) r9 y9
 have i11:Def pg w .r mg base 4 "_law_parts" 1 (NW):=uV b1 c1 d1 (a11.mono .f) (d11.mono .f) (e11.mono .f) (g11.mono .f) s9 r9
 have j11:Def pg w .r mg base 3 "_law_laid" 2 (NS):=xT e1 f1 g1 (d11.mono .f) t9 s9 r9
 have k11:Def pg w .r mg base 3 "_law_value" 1 (Nl):=uW i1 j1 k1 (d11.mono .f) (f11.mono .f) 
 have l11:Def pg w .r mg base 1 "_law_frac_text" 1 (NY):=oM l1 o1 q1 z9
 have o11:Def pg w .r mg base 2 "_law_row" 1 (Kz):=zY r1 s1 t1 (l11.mono .f) u9
 have q11:Def pg w .r mg base 3 "_law_text" 1 (Nh):=xU u1 v1 y1 (o11.mono .f) 
 have r11:Def pg w .r mg base 2 "_law_due" 2 (Nb):=zX z1 a2 b2 (f11.mono .f) r9
 have s11:cV pg w .r mg base 1 337 "row" 1 (IL):=uQ c2 d2 i8 .bi 
 have t11:cV pg w .r mg base 1 372 "row" 1 (Ft):=zW e2 f2 f8 .bi d9 
 have u11:cV pg w .r mg base 1 412 "row" 1 (Fq):=uN g2 i2 k8 .bi d9 e9 
 have v11:Def pg w .r mg base 1 "figures" 1 (Nc):=BK 3 j2 k2 l2 a10 z9
 have y11:Def pg w .r mg base 2 "show_frac" 1 (Nk):=xZ o2 q2 r2 (v11.mono .f) v9
 have z11:cV pg w .r mg base 3 452 "row" 1 (Fs):=uO s2 t2 o8 .bi (y11.mono .f) d9 f9 e9 
 have a12:cV pg w .r mg base 1 488 "row" 1 (Fv):=xQ u2 v2 r8 .bi d9 g9 
 have b12:cV pg w .r mg base 1 528 "row" 1 (Fu):=xO y2 z2 t8 .bi e9 
 have c12:cV pg w .r mg base 1 372 "wants" 1 (rY):=kZ a3 b3 f8 .bi 
 have d12:cV pg w .r mg base 1 337 "wants" 1 (rY):=kZ a3 b3 i8 .bi 
 have e12:cV pg w .r mg base 1 412 "wants" 1 (wO):=qD c3 d3 k8 .bi e9 
 have f12:cV pg w .r mg base 1 452 "wants" 1 (wQ):=qF e3 f3 o8 .bi e9 
 have g12:cV pg w .r mg base 1 488 "wants" 1 (wU):=sV g3 i3 r8 .bi g9 y9
 have i12:cV pg w .r mg base 1 528 "wants" 1 (wR):=sT j3 k3 t8 .bi e9 
 have j12:cV pg w .r mg base 1 337 "tells" 2 (DZ):=qG l3 o3 i8 .bi j10 k10
 have k12:cV pg w .r mg base 1 372 "tells" 2 (Bb):=uP q3 r3 f8 .bi d9 
 have l12:cV pg w .r mg base 1 412 "tells" 2 (A9):=qC s3 t3 k8 .bi e9 
 have Ey:Def pg w .r mg base 0 "half" 2 (fun _=>none):=Def.zero u3 v3 y3
 have q12:Def pg w .r mg base 1 "common" 2 (jc):=(EA (P:=pg) (w:=w) (base:=base) (k:=0) B z3 a4 b4 (Ey.mono .f) v9 l10).imp EJ
 have r12:Def pg w .r mg base 2 "times" 2 (P6):=(G6 (P:=pg) (w:=w) (base:=base) (k:=1) c4 d4 e4 (q12.mono .f) ).imp HK
 have s12:cV pg w .r mg base 3 452 "tells" 2 (Ba):=qE f4 g4 o8 .bi (r12.mono .f) f9 e9 
 have Qg:Def pg w .r mg base 2 "plus" 2 (Js):=(JE (P:=pg) (w:=w) (base:=base) (k:=1) i4 j4 k4 (q12.mono .f) ).imp Ke
 have u12:Def pg w .r mg base 3 "minus" 2 (Ni):=G5 l4 o4 q4 (Qg.mono .f) 
 have v12:cV pg w .r mg base 4 488 "tells" 2 (Bd):=sU r4 s4 r8 .bi (Qg.mono .f) (u12.mono .f) g9 j10 k10
 have y12:cV pg w .r mg base 1 528 "tells" 2 (Bc):=sS t4 u4 t8 .bi e9 
 have z12:Def pg w .r mg base 5 "_law_made_good" 4 (NR):=oN v4 y4 z4 (o11.mono .f) (zab.mpr ⟨s11.mono .f,(zab.mpr ⟨t11.mono .f,(zab.mpr ⟨u11.mono .f,(zab.mpr ⟨z11.mono .f,(zab.mpr ⟨a12.mono .f,(zab.mpr ⟨b12.mono .f,.aD⟩)⟩)⟩)⟩)⟩)⟩) .ac (zab.mpr ⟨j12.mono .f,(zab.mpr ⟨k12.mono .f,(zab.mpr ⟨l12.mono .f,(zab.mpr ⟨s12.mono .f,(zab.mpr ⟨v12.mono .f,(zab.mpr ⟨y12.mono .f,.aD⟩)⟩)⟩)⟩)⟩)⟩) i9 j8 r9 y9 b10
 have a13:gx pg w .r mg base 2 "In" 372 1 (Nr):=L3 a5 b5 f8 .bR g8 (by kernel_rfl:PySem.W.findIn .r (.c 372) "name" = some none) 
 have b13:gx pg w .r mg base 2 "Cell" 412 2 (Np):=G3 c5 d5 k8 .bR l8 (by kernel_rfl:PySem.W.findIn .r (.c 412) "name" = some none) (by kernel_rfl:PySem.W.findIn .r (.c 412) "source" = some none) 
 have c13:gx pg w .r mg base 2 "Gain" 452 3 (Nq):=G4 e5 f5 o8 .bR q8 (by kernel_rfl:PySem.W.findIn .r (.c 452) "name" = some none) (by kernel_rfl:PySem.W.findIn .r (.c 452) "by" = some none) (by kernel_rfl:PySem.W.findIn .r (.c 452) "source" = some none) 
 have d13:gx pg w .r mg base 2 "Sum" 488 2 (Nu):=JD g5 i5 r8 .bR s8 (by kernel_rfl:PySem.W.findIn .r (.c 488) "name" = some none) (by kernel_rfl:PySem.W.findIn .r (.c 488) "terms" = some none) 
 have e13:gx pg w .r mg base 2 "Out" 528 1 (Nt):=JC j5 k5 t8 .bR u8 (by kernel_rfl:PySem.W.findIn .r (.c 528) "source" = some none) 
 have f13:Def pg w .r mg base 6 "_law_by_hand" 3 (NP):=qH l5 o5 q5 (z12.mono .f) (a13.mono .f) (b13.mono .f) (c13.mono .f) (d13.mono .f) (e13.mono .f) d9 e9 f9 g9 
 have g13:cV pg w .r mg base 1 599 "parts" 1 (Ls):=oK r5 s5 v8 .bi j9 c10
 have i13:Def pg w .r mg base 1 "is_name" 1 (NV):=BL t5 u5 v5 r9 d10 o10 q10
 have j13:Def pg w .r mg base 2 "are_names" 2 (Io):=xV y5 z5 a6 (i13.mono .f) r9 d10
 have k13:Def pg w .r mg base 1 "is_figures" 1 (Nd):=uX b6 c6 d6 r9 d10 r10
 have l13:Def pg w .r mg base 1 "is_whole" 1 (PL):=Aa e6 f6 g6 u9 b10 e10
 have o13:Def pg w .r mg base 2 "is_fraction" 1 (Nf):=sY i6 j6 k6 (l13.mono .f) (q12.mono .f) y9 b10 r9
 have q13:Def pg w .r mg base 3 "read_frac" 1 (NX):=xW l6 o6 q6 (k13.mono .f) (o13.mono .f) (y11.mono .f) z9 b10 u9
 have r13:Def pg w .r mg base 4 "read_factor" 1 (PJ):=sZ r6 s6 t6 (q13.mono .f) c9 z8 v9 s10 t10
 have s13:Def pg w .r mg base 5 "read_gain" 3 (PN):=xX u6 v6 y6 (r13.mono .f) (j13.mono .f) (c13.mono .f) 
 have t13:Def pg w .r mg base 3 "read_sum" 2 (PR):=Ab z6 a7 b7 (j13.mono .f) (d13.mono .f) y9 r9
 have u13:Def pg w .r mg base 6 "read_part" 1 (Nj):=xY c7 d7 e7 (j13.mono .f) (s13.mono .f) (t13.mono .f) (a13.mono .f) (b13.mono .f) (e13.mono .f) r9 u10
 have v13:Def pg w .r mg base 7 "read_parts" 1 (IM):=uY f7 g7 i7 (u13.mono .f) f10
 have y13:Def pg w .r mg base 2 "refuse_names" 1 (PQ):=qI j7 k7 l7 .ac k9 u8 d9 b10
 have z13:Def pg w .r mg base 1 "refuse_counts" 1 (PM):=pK o7 q7 r7 l9 o9 k9 l8 g8 u8 b10 r9 v10 y10 z10
 have a14:yM pg w .r mg base 1 "free_names" 2 (Ky):=sW (P:=pg) (w:=w) (base:=base) (k:=0) s7 t7 u7 d10
 have b14:Def pg w .r mg base 2 "in_order" 1 (PK):=zZ 100 v7 y7 z7 (a14.mono .f) .ac hi2_Gain_Sum q8 s8 d9 b10 g10 r9
 have c14:gx pg w .r mg base 9 "Wiring" 599 1 (Nv):=BJ a8 b8 v8 .bR y8 (by kernel_rfl:PySem.W.findIn .r (.c 599) "whole" = some none) (by kernel_rfl:PySem.W.findIn .r (.c 599) "all_parts" = some none) (by kernel_rfl:PySem.W.findIn .r (.c 599) "in_parts" = some none) (by kernel_rfl:PySem.W.findIn .r (.c 599) "cell_parts" = some none) (by kernel_rfl:PySem.W.findIn .r (.c 599) "out_parts" = some none) (by kernel_rfl:PySem.W.findIn .r (.c 599) "inner_parts" = some none) (v13.mono .f) (y13.mono .f) (z13.mono .f) (b14.mono .f) l9 o9 k9 l8 g8 u8 y9 b10
 exact LB (P:=pg) (w:=w) (base:=base) (k:=9) c8 (i11.mono .f) (a11.mono .f) (j11.mono .f) (k11.mono .f) (q11.mono .f) (r11.mono .f) (f13.mono .f) (zab.mpr ⟨g13.mono .f,.aD⟩) (zab.mpr ⟨j12.mono .f,(zab.mpr ⟨k12.mono .f,(zab.mpr ⟨l12.mono .f,(zab.mpr ⟨s12.mono .f,(zab.mpr ⟨v12.mono .f,(zab.mpr ⟨y12.mono .f,.aD⟩)⟩)⟩)⟩)⟩)⟩) (c14.mono .f) f10 i10 t9 y9 b10 r9 u9 e10
theorem walk {q:.am}{loose:.Y}{XP:(Str->Option Value)->Heap->Prop}{d:DefRec}(hn:d.name = "law")(hdf:d.params.defaults=[]):PySem.W.WalkO q loose XP hk.says lw.row.toRowW d [] (fun f vs=>PySem.call f vs):=
 L2.DH (n:=63) (k:=10) (x := "_law_script") (CX:=fun _=>ur) (K:=kk) (sp:=fun w=>spT .r 1 NT) rfl .f hdf ⟨rfl,.f,.f⟩ (fun _ _ Y=>PySem.W.kIn_of Y) (fun w mg fa h KX G e=>all_mk KX G (by rw [hn] at e;exact e))
  (fun w H a ns hl _ hS=>⟨rfl,H,[.scr (ns.map T.int)],.bl true,aV.refl H,⟨_,[],rfl,⟨a,ns.map V.int,rfl,hS,vZ ns⟩,rfl⟩,GN ns hl,fun _ _ v _ r=>r⟩) fun _ _ _ _ _ z=>z
end My
open PySem PySem.W PyProof.Rows
set_option maxHeartbeats 0 in
theorem PySem.Challenge.cw_echohouse_k22_parts_tell_holds : PySem.Challenge.rw_echohouse_k22_parts_tell.Holds := by
 refine holds_law My.ws fun said=>?_
 refine holds_open (q:=My.qv) (loose:=[]) (Xt:=My.xt) (XP:=XL My.qv []) My.hl (Hook.of My.hk) (Hook.keeps My.hk)
  (fun s e=>xl_of s (zbE.mp e).1) XL.keeps (by rfl) (by rfl) (by rfl)
  (fun s e=>recFacts_of (zbE.mp e).2) (by rfl) said .c ⟨rfl,rfl,rfl,rfl,rfl,.c⟩ ?hw ?hc
 case hw=>w_witness2
 case hc=>exact My.walk rfl rfl
