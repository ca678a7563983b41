import PyProof.Rows.All
import Wide.All
import OpenK.AllK
import PySem.Challenge.RW_echohouse_k21_wirings_told
noncomputable section
set_option compiler.extract_closed false
local macro_rules | `(tactic| walk_at "sc")=>`(tactic| exact ⟨rfl,rfl,rfl,by decide +kernel,rfl,by decide +kernel,by decide +kernel⟩)
set_option Elab.async false
set_option linter.all false
set_option maxRecDepth 100000
set_option maxHeartbeats 4000000
local macro_rules | `(tactic| walk_at "ev")=>do
  let ns:List Lean.Name:=[`Bool.false_eq_true,`Bool.not_false,`Bool.not_true,`Eu,`Ew,`Jm,`List.cons_append,`List.getElem?_cons_succ,`List.getElem?_cons_zero,`List.length_cons,`List.length_nil,`List.map_cons,`List.map_nil,`List.nil_append,`List.replicate_succ,`List.replicate_zero,`List.set_cons_succ,`List.set_cons_zero,`Nat.reduceAdd,`Nat.reduceLeDiff,`Nat.reduceSub,`Nat.sub_self,`Nat.zero_add,`Option.bind_none,`Option.bind_some,`and_self,`and_true,`beq_self_eq_true,`boolsOf,`sR,`mZ,`bJ,`RY,`Jv,`gh,`decide_false,`decide_true,`aO,`gS,`iz,`eY,`lS,`fC,`ai,`Me,`lT,`ag,`Mf,`wg,`GO,`gU,`zk,`cG,`eI,`gi,`bK,`ao,`eU,`gK,`ar,`uO,`BG,`uS,`dA,`bo,`Dh,`aL,`OU,`cj,`bN,`zm,`bR,`bU,`dz,`xy,`uT,`ae,`aR,`lU,`fV,`oS,`GZ,`ti,`Mo,`EU,`il,`G0,`Mp,`Oi,`G2,`G3,`G4,`G5,`Mq,`JK,`p8,`JL,`aD,`ah,`bS,`cu,`if_false,`if_true,`DB,`zU,`zV,`BV,`zW,`Fj,`BW,`xN,`xO,`xQ,`zX,`xR,`BX,`zY,`uW,`xS,`xT,`lZ,`xU,`BY,`zZ,`uX,`xV,`xW,`Aa,`kc,`BZ,`Ab,`uY,`xX,`xY,`Ac,`xZ,`B0,`Ad,`uZ,`ya,`yb,`Ae,`yc,`B2,`Af,`va,`yd,`ye,`Ag,`yf,`B3,`Ah,`vb,`yg,`yh,`Ai,`yi,`B4,`Aj,`vc,`ite_false,`ite_true,`Ug,`Uh,`Sf,`Tz,`TB,`Ui,`dk,`Uj,`ne_eq,`not_false_eq_true,`not_true_eq_false,`reduceCtorEq,`reduceIte,`Qn,`Ol,`true_and,`iP]
  let mut ls:Array (Lean.TSyntax `Lean.Parser.Tactic.simpLemma):=#[]
  for n in ns do
   unless (<- Lean.Macro.resolveGlobalName n).isEmpty do
    ls:=ls.push (<- `(Lean.Parser.Tactic.simpLemma| $(Lean.mkIdent n):ident))
  `(tactic| simp only [$[$ls],*, *])
def zaa:=@Option.bind_some
def zab:=@List.forall_mem_cons
def zac:=@List.mem_singleton
def zad:=@List.mem_cons_of_mem
def zae:=@List.mem_cons_self
def zaf:=@List.map_cons
def zag:=@Nat.le_of_ble_eq_true
def zah:=@List.length_map
def zai:=@List.mem_map
def zaj:=@List.length_append
def zak:=@List.getElem?_set_self
def zal:=@List.getElem?_set_ne
def zam:=@Nat.le_refl
def zan:=@List.not_mem_nil
def zao:=@List.mem_cons
def zap:=@List.length_cons
def zaq:=@PySem.boot_len
def zar:=@List.getElem?_eq_some_iff
def zas:=@Nat.ne_of_lt
def zat:=@List.mem_append_right
def zau:=@Nat.lt_of_lt_of_le
def zav:=@List.getElem?_eq_getElem
def zaw:=@List.append_nil
def zax:=@List.length_singleton
def zay:=@List.map_map
def zaz:=@Nat.le_trans
def zaA:=@List.mem_append
def zaB:=@List.nodup_cons
def zaC:=@PySem.mem_of_lookup
def zaD:=@List.getD_eq_getElem?_getD
def zaE:=@List.size_toArray
def zaF:=@List.mem_filter
def zaG:=@Nat.lt_of_le_of_lt
def zaH:=@List.replicate_succ
def zaI:=@List.getElem?_map
def zaJ:=@PySem.W.kia_one
def zaK:=@Nat.lt_succ_of_lt
def zaL:=@Bool.false_ne_true
def zaM:=@List.filter_append
def zaN:=@Option.some.inj
def zaO:=@List.nil_append
def zaP:=@List.map_append
def zaQ:=@Int.toNat_natCast
def zaR:=@List.flatten_cons
def zaS:=@List.nodup_append
def zaT:=@List.mem_range
def zaU:=@Nat.zero_le
def zaV:=@List.filter_cons_of_pos
def zaW:=@Nat.ne_of_gt
def zaX:=@Int.fmod_eq_emod_of_nonneg
def zaY:=@List.drop_eq_getElem_cons
def zaZ:=@Nat.lt_trans
def za0:=@PySem.F.slot_str_join
def za1:=@PySem.F.type_str_join
def za2:=@List.filterMap_append
def za3:=@Nat.mod_lt
def za4:=@Nat.lt_irrefl
def za5:=@List.append_assoc
def za6:=@List.length_range
def za7:=@PyProof.Rows.callWith_type1
def za8:=@Array.getElem?_eq_some_iff
def za9:=@Int.fdiv_eq_ediv_of_nonneg
def zba:=@List.length_take
def zbb:=@List.length_replicate
def zbc:=@PySem.wpAny_isSubtype_exc
def zbd:=@List.mem_append_left
def zbe:=@List.filterMap_cons_some
def zbf:=@Nat.lt_succ_self
def zbg:=@List.length_drop
def zbh:=@List.drop_length
def zbi:=@List.lookup_cons
def zbj:=@Bool.beq_eq_decide_eq
def zbk:=@List.mem_of_getElem?
def zbl:=@List.nodup_nil
def zbm:=@PySem.F.slot_dict_itemiterator_iter
def zbn:=@PySem.F.plainAttrs_list
def zbo:=@Nat.min_eq_left
def zbp:=@Bool.true_and
def zbq:=@PySem.W.kitx_list
def zbr:=@PyProof.Rows.slot_tuple_getitem
def zbs:=@List.reverse_cons
def zbt:=@Nat.div_lt_iff_lt_mul
def zbu:=@PySem.F.slot_str_removeprefix
def zbv:=@PySem.F.type_str_removeprefix
def zbw:=@Bool.and_eq_true_iff
def zbx:=@PySem.W.plainGet_of
def zby:=@List.of_mem_zip
def zbz:=@Array.length_toList
def zbA:=@List.getElem_of_mem
def zbB:=@Nat.div_add_mod
def zbC:=@List.getElem?_range
def zbD:=@Bool.eq_iff_iff
def zbE:=@List.filter_eq_self
def zbF:=@Nat.le_of_lt
def zbG:=@List.zip_cons_cons
def zbH:=@Nat.pos_of_ne_zero
def zbI:=@Nat.beq_refl
def zbJ:=@PySem.W.kitx_dict
def zbK:=@Option.isSome_map
def zbL:=@Nat.le_succ
def zbM:=@List.map_take
def zbN:=@PySem.W.kitx_own
def zbO:=@Bool.and_eq_true
def zbP:=@Nat.le_add_right
def zbQ:=@List.take_length
def zbR:=@List.all_eq_true
def zbS:=@List.all_map
def zbT:=@Nat.gcd_comm
set_option hygiene false
local macro_rules|`(.$c:ident)=>do
 let some i:="a c d e f h i j l m n o p q s t u v x y z B D G H I J L M O Q R S U V X Y Z aa ab ac ad ae af ag ah ai aj ak al am an ao aq ar au av aw ax ay az aA aB aC aD aE aF aG aH aI aJ aK aL aM aN aO aP aQ aR aS".splitOn.idxOf? c.getId.toString|Lean.Macro.throwUnsupported
 let a<-`([(by kernel_rfl),
(by decide +kernel),
(by omega),
(by decide),
(by simp),
(by assumption),
(by simp;omega),
(PySem.W.Frag),
((zab.mpr ⟨⟨R,.a,.a,.a,.a,.a⟩,(zab.mpr ⟨⟨u7,.a,.a,.a,.a,.a⟩,(zab.mpr ⟨⟨H,.a,.a,.a,.a,.a⟩,(zab.mpr ⟨⟨a8,.a,.a,.a,.a,.a⟩,(zab.mpr ⟨⟨c8,.a,.a,.a,.a,.a⟩,(zab.mpr ⟨⟨e8,.a,.a,.a,.a,.a⟩,(zab.mpr ⟨⟨n,.a,.a,.a,.a,.a⟩,(fun _ h=>absurd h zan)⟩)⟩)⟩)⟩)⟩)⟩)⟩)),
((kk w.params)),
(Value->Shared->Prop),
((model X.prog X.w)),
((.str "echohouse.parts" 590)),
(Inv X pins σ H s),
(List (Addr×Obj)),
((Or.inl rfl)),
((.str "echohouse.errors" 194)),
((lN X scope N' C cs Y8 Y9 fp pins)),
((.str "abcdefghijklmnopqrstuvwxyz")),
((.lst (ps.map Pt.obj))),
((.str "law_echohouse_k21_wirings_told" 1085)),
((.str "echohouse.wiring" 871)),
(List Nat),
(Str->Option Value),
(List (List Nat)),
((fun _ h=>absurd h zan)),
((.lst (ps.map Pt.law))),
((fun _ _=>rfl)),
((x == ("__debug__" : Str))),
((model prog w)),
((.bl false)),
((.ListComp elt [⟨tg,iter,l,0⟩] scope pos)),
(List Value),
(List Str),
(List Addr),
((s (bu ((fP ps).map Pt.nam)))),
(List T->Option T),
(["self"]),
([s (tx (gC a b)),s (tx (sgn a++ds a.natAbs)),s (tx m),s (tx (ds b)),none]),
((ai (nQ bL bW [(eX,false),(cO,false),(cn,false),(bL,true),(bW,true),(cQ,false),(cW,false)]) (.a (ae 0) (dz (ag (fC (.ptr bL)) (ag (fC (.ptr bW)) ao)))))),
(Heap.get?_push_size _ rfl),
((.builtin "object.__new__")),
(#[some (.d 22),none,some (.str "EchoError" 196),some (.str "EchoError" 204),some (.builtin "ValueError.__new__"),some (.bool true)]),
((ar bI (ae 0) (aH 0))),
(⟨_,rfl⟩),
([s (rV sc),.e c,s (bj a),s (bj b),s (bj o),s (bj m),s (bu (eE nm (a+1+b+m))),s (bu (eE nm (a+1+b))),none,none,none,none]),
(Program),
((cellsFrom (s2.heap.objs.size+2) scope.names (pP X.env scope.names []))),
((.builtin "ValueError.__new__")),
((zab.mpr ⟨u11.mono .e,(zab.mpr ⟨v11.mono .e,(zab.mpr ⟨y11.mono .e,(zab.mpr ⟨z11.mono .e,(zab.mpr ⟨a12.mono .e,(zab.mpr ⟨b12.mono .e,.I⟩)⟩)⟩)⟩)⟩)⟩)),
([.ref 38,.type "ValueError", .type "Exception", .type "BaseException", .type "object"]),
(.type "object"),
((aZ.refl R)),
((.bool true)),
((s.heap.objs.size+1)),
((by simpa using h)),
(List Expr),
(aB K Y0 Y9 F H σ τ),
([s (tx (gC a b)),s (tx (sgn a++ds a.natAbs)),s (tx m),s (tx (ds b)),s (zo a b)]),
((by simpa using aQ .d)),
((ls.map fun l=>PyData.str (S l))),
(xI n [g,E,J,d3,z,j,m] ws [] none),
((ak (ak aN))),
(List Pt),
("_law_cell_here"),
((Addr×(List T->Option T))),
((.dK kvs)),
((bu (Q.map Pt.nam))),
((dy hr.units)),
((fun _ _=>False)),
((Heap.lt_size e)),
((A.deeper (envOfC qual (ax st) s.heap.objs.size f cdv))),
(((List.range (a+1)).map (fun i=>(Pt.inp (nm i)).law)++is.map Pt.law)),
([topFrame ⟨0,0,0,0⟩]),
(Option Sl),
(⟨absHeap (uC w.params) 783 {},Array.mk [],boot_drawn,1213,os⟩),
((.Call (.Name x p) (e::es) [] pos)),
([Str.ofString "name", Str.ofString "source", Str.ofString "by", Str.ofString "terms"]),
((bE rfl)),
((s (.ptr a)))])
 return a.raw[1][2*i][1]
local macro_rules|`(.$c:ident)=>do
 let some i:="aT aU aV aW aX aY aZ a0 a1 a2 a3 a4 a5 a6 a7 a8 a9 ba bb bc bd be bf bg bh bi bj bm bn bo bp bq br bt bu bv bw bx bz bA bB bC bD bE bF bG bH bI bJ bK bL bM bN bO bP bQ bR bS bT bU bV bW bX bY bZ b0 b1 b2 b3 b4 b5 b6 b7 b8 b9 ca cb cd ce cf".splitOn.idxOf? c.getId.toString|Lean.Macro.throwUnsupported
 let a<-`([((fun _ _ _ _ _ _=>cM)),
((fun _ _ _ _ _ _=>(aa 0 (pv 0)))),
((ar bI (ae 1) (ar dB (ar aU (.c bI 2 0) (ar gL (ae 3) (.f fU (.c eO 0 4)))) (aH 26)))),
(m9 K Y0 Y9 F H σ τ x p os A),
((List.replicate (36-(ds (n%10^36)).length) 48++ds (n%10^36))),
([s (tx (Pt.sum n ts).row),s (tx (Pt.sum n ts).kind),s (bu (Pt.sum n ts).args)]),
((∀c o,c≠z->c≠TO->c≠i1->c≠i2->s.heap.get? c=some o->h'.get? c=some o)),
(⟨absHeap (T w.params) n {},Array.mk [],boot_drawn,k,os⟩),
(⟨.type "tuple", none,.seq #[] 0,#[]⟩),
((k == NameKind.free&&env.scope.kind == .function&&env.kindOf n == some .cell)),
((gC q.num q.den)),
(List Stmt),
((s1.trans s2)),
((fun z=>nomatch z)),
((ha pins s σ H _ I h)),
(Binds K fd .Z []),
([s a,s b,s c,s d,s (.ptr f),s p.obj,s p.law,none,none]),
((⟨Rz w.params,15,{},#[],PySem.W.boot_drawn,187,os⟩:PySem.W.SharedT)),
((ps.map Pt.obj)),
((.inl rfl)),
((cI no cap (frzAll cap p.2))),
((.str "echohouse.fracs" 503)),
((pP X.env scope.names [])),
((lE sc ps Q .aS v I .X (.n ((Q.map Pt.nam).map tx)))),
((.f mZ (bf 1 [2] (aR (ae 1)) (ah 0) aO (.c Oh 0 1)))),
(X.A.units+64<cLine),
(⟨.bl _,H,I,rfl,q F H _ .ao rfl⟩),
((starEach es X.env)),
((.lst vs)),
(Inv X pins σ H { s with heap:=h' }),
(X.calm=true),
([s (rV sc),.e c,none,none,none,none,none,none,none,none,none,none]),
((List Nat)),
((.ref s2.heap.objs.size)),
(.type "tuple"),
(List (Key×V)),
([.s n,s (nt [g,E,J,d3,z,j,m]),s (bu ws),none,none]),
(.tup [.ty "list", .ty "tuple"]),
(⟨.a,.a,.a⟩),
([s (tx p.nam),s (bu (Wp ps p)),s (bu c)]),
((textOf ps)),
((bf 1 [] (sZ (ae 0)) (ah 0) aO (.m rf (fC (.str "0123456789"))))),
(Heap.get?_push_of_some _ q),
((.bl true)),
([97+(tail.getD j 0+k*(if j=a then 1 else 0))%26]),
((.Call (.Attribute o m apos) [] [] pos)),
(List T->az->Option az),
(List Nat->Nat),
((zam _)),
((["part"]:List Str).Nodup),
([s t, s (.ptr a), s p.obj, none]),
((eY 8 (dz (ag (fC (.str "cell")) (.a (ar bI (ae 6) (.x 9)) (ar bI (ae 7) (.c bI 11 9))))))),
(X.env.scope.names.lookup y=some .local),
([.s n,s (bu (ts.map kQ)),s (.tup (ts.map gb))]),
(bG (fun m=>by rw [zac.mp m,ha] at h2;cases h2)),
(mg "isinstance" = none),
((EP X pins σ Q)),
(⟨.a,.a,.a,.a⟩),
((ha Y0 Y9)),
((eY 8 (dz (.a (fC (.str "out")) (ar bI (ae 7) (ar bI (ae 11) (ar aU (ae 3) (ae 9)))))))),
((.str "echohouse.divisors" 418)),
((.a (ae 1) (eI (ag (aH 2) (ag (aH 5) (.a (aH 2) (aH 9))))))),
(iO X.prog X.w X.K X.mg X.base CX k f fd ps sp),
([s (rV sc),.e c,.m a,.m b,.m o,.m m,s (bu (eE nm (a+1+b+m))),none,none,none,none,none]),
((bO rfl)),
((aK rfl)),
((s2.heap.objs.size+1)),
((Addr×Bool)),
((s (bj k))),
((by rw [zaj,zax];omega)),
((.ref s.heap.objs.size)),
(N'.length=no+cap.length),
((wpAny_pure ?_)),
((by simp only [List.size_toArray]<;>omega)),
((by kernel_rfl)),
(fun y R hk=>I.ok.has y.1 (B.free y R hk).1),
(mg "len" = none),
((fC (.str "sum"))),
((eE nm (a+1+b+m))),
(((sg++ds a.natAbs)++[47]))])
 return a.raw[1][2*i][1]
local macro_rules|`(.$c:ident)=>do
 let some i:="cg ch ci cj ck cm cn cq cr cs cu cv cw cx cy cz cA cB cC cD cE cF cG cH cI cJ cK cL cM cN cO cP cQ cR cS cT cU cV cW cX cY cZ c1 c2 c3 c4 c5 c6 c7 c8 c9 da db dd de df dg dh di dk dl dm dn dq dr ds dt du dv dw dx dy dz dA dB dC dD dE dF dG".splitOn.idxOf? c.getId.toString|Lean.Macro.throwUnsupported
 let a<-`([((cT rfl rfl)),
((.frz o .aF)),
((ls.map tx)),
((.m (jX false) (ae 1))),
((pV [cn,bL,cQ] [(eX,false),(cO,false),(cn,true),(bL,true),(bW,false),(cQ,true),(cW,false)])),
((ar aU (ar bI (eI (.a (fC (.str " -")) (fC (.str " ")))) (.f fU (.m BK (aH 0)))) (ae 1))),
(["_law_part"]),
((fun r s'=>r=.ok (.ret .aq)/\OldK g.heap s'.heap/\s'.os=g.os/\AllBare s'.gens)),
((cu (.c 0 1))),
((cY [i,c,b,g] "name" (ae 0))),
(s (D1 ps)),
(Nat->List Nat),
((ps.map Pt.law)),
((fC (.str " "))),
((by simp [Pt.kind])),
((by rw [List.length_append];simp;omega)),
((HT.gc xs.length xs.length hi-HT.gc xs.length 0 lo)),
((dT (ip ps d))),
(.type "BaseException"),
(List (Str×Addr)),
((⟨uC w.params,783,{},#[],PySem.W.boot_drawn,1213,os⟩:PySem.W.SharedT)),
(H s.heap.objs.size=none),
((.lst xs)),
(Heap.get?_push_of_some _ e),
((sgn a++ds a.natAbs)),
((fun cdv A outer s H vs Q E hr z=>?_)),
((PySem.W.fnOf x qual (jV st) (eT st) (ax st) .none kV doc pm an cdv ct)),
(((hide τ).set x (.o (.dct d.1 d.2)))),
(⟨x,H1,O,r1,q1⟩),
([s .aG,s .J,s (dT (bp ps)),iB ps none,none,none]),
(List (Str×NameKind)),
(Array Value),
("source"),
((keywordEach [] X.env)),
((he pins s σ H _ I h)),
((h Y0 Y9)),
((fC (.str "-"))),
((eE nm N)),
(s (.dct (ns.map S) vs)),
(T->T->Option T),
((some v)),
((.builtin "object.__class__")),
((.builtin "type.__call__" ⟨.ref C::us,kw⟩)),
([s (rV sc),none,none,none,none,none,none,none,none,none,none,none]),
([s (rV sc),.e c,.m a,.m b,.m o,.m m,none,none,none,none,none,none]),
((hb Y0 Y9)),
((fun _=>rfl)),
((by rw [E.len];exact hl)),
((fC (.str (Str.ofString k)))),
((cY [c,b,h] "source" (ae 0))),
(List (κ×V)),
((false,lE sc ps Q .aS v I .X none)),
(fH (t:=t) rfl rfl ⟨zan,.e⟩ rfl),
(acc.length+(l.length+1)≤sizeLine),
((upd H8 s2.heap.objs.size (.lst (vs++[y])))),
((fC (.str "gain"))),
((ar aU (ar aU (.a gL 3 48271) (ar gL (aH 7919) (ae 4))) (aH 1))),
((apos.endLine == cpos.line)),
((List Key×Addr×Value)),
((I.ok.hd U)),
((.a bI 1 0)),
((s.heap.objs.size+2)),
(.type "ValueError"),
(PassesOwn .o X.A X.env X.xe),
(Option Addr),
(List (List Key×V)),
((fC (.str "in"))),
(((ps.filter Pt.isIn).length:Nat)),
([.e c,.m n,s .x,.e ((1+o:Nat):Int),none,none,none,none,none]),
([.e c,.m n,s .x,.e ((1+o:Nat):Int),.m a,none,none,none,none]),
((uO (bR (ar (jX true) (ae 4) (ae 2))) (.D (ae 4) (.d jC 5)))),
(qB K Y0 Y9 F H σ τ x p d),
(⟨_,.ac,rfl,rfl⟩),
((by simpa using hi)),
((.dK (bx d.1 vs))),
(.type "Exception"),
(eN K x qual st f fd),
((zat _ (zat _ (gj hb e)))),
(some (.own [])),
((.none))])
 return a.raw[1][2*i][1]
local macro_rules|`(.$c:ident)=>do
 let some i:="dH dI dJ dL dM dN dO dP dQ dR dS dU dV dW dX dY dZ d0 d1 d2 d3 d4 d5 d6 d7 d8 d9 ea eb ec ed ee ef eg eh ei ej ek el em en eo ep er es et eu ev ew ey ez eA eB eC eD eE eF eG eH eI eJ eK eL eM eN eO eP eQ eR eS eT eU eV eW eX eY eZ e0 e1 e2".splitOn.idxOf? c.getId.toString|Lean.Macro.throwUnsupported
 let a<-`([((.lst ts)),
(V->Option Int->Option Int->Hp->VK->Prop),
(Option Value),
((fun C cs Y8 Y9 fp pins=>SE.seo (he C cs Y8 Y9 fp pins))),
((j, false)),
([.e c,s (nt bs)]),
((frzAll cap τ1)),
((aS rfl rfl rfl)),
((aJ.refl _)),
(Unit->Shared->Prop),
(List (κ×Value)),
((zag rfl)),
((sP CX P w K mg base N qual scope f cdv A outer s H E)),
((s p.law)),
((bo (ar cU (fC (.str "")) (jW 1 (dA (xy p8 (aH 1))))))),
((bR (ar BK (xy ti (ae 1)) (aH 4000)))),
((.tup xs)),
((.str "")),
((.d bJ 0)),
(lE sc ps Q (s .y) none none none none),
((fun _ _ _ _ _ _ => cM)),
((by rw [e];exact True.intro)),
((.builtin id)),
((.builtin "isinstance")),
((.a (.a iA 0 64) (ar xD (eI (ag (aH 26) ao)) (ae 3)))),
([fB (.scr (ns.map T.int)),fB (bj k)]),
((frzO F H A)),
((PySem.W.instObj C s.heap.objs.size)),
(m7 L O a j (s (tx m)) (.I d)),
(fun pins s σ H Q I q=>h pins s σ H Q I (i σ H Q q)),
(decide_eq_decide.mpr .d),
(ZipApart z TI TO i1 i2 l1 l2),
(Value->Value->Sem Value),
([s (tx l)]),
((s (bj d))),
(SI X tg iter g),
(Loc X.env.scope x),
(List (Str×Value)),
([.s n,.s .a3,.s w,s (rS q)]),
((uS 0 1 (.a (ae 1) (.m dB (ae 1))))),
((.Tuple elts kx px)),
(((ps.map Pt.obj).map O.val)),
((by rw [xex];exact hb)),
(q F H _ .ao rfl),
(cw rfl ?_),
((fun b o hb e=>(N.2 b hb).trans e)),
(((ps.filter Pt.isCell).length:Nat)),
([s .y,none,none,none,none]),
((ha pos pins s σ H _ I h)),
((by rw [eB rfl pJ so];rfl)),
((by rw [eB rfl lg qC];rfl)),
((r, false)),
((he Y0 Y9)),
((g, false)),
([none,s .x,s (nt tail),.m k,.m a]),
([.s (gC a b),none,none,none,none]),
([.m j,s .x,s (nt tail),.m k,.m a]),
([.aD,"_law_bases"]),
((gc items.size items.size hi-gc items.size 0 lo)),
((fun _ z=>by cases z)),
((.o (.ptr p))),
(decide_eq_false .d),
(.type "type"),
(X.N.Nodup),
([s .y,.cu,none,none,none]),
((zm (ae 1) (dA (aH 3)) (dA (ar aU (aH 3) .dl)))),
((zk (bR (.a eO 0 1)) (ae 1) (ar aU .cU (ae 1)))),
((.ak i)),
((.e 0 au)),
([s p.obj,s p.law,.t (Lc.map tx)]),
((Shared.heap ⟨hp,g,d,tk,os⟩)),
([.e c,.m n,s .x,none,none,none,none,none,none]),
(IsPair s.heap TI (.d i1) (.d i2)),
(["self","name","by",.cQ]),
(["_law_script","_law_k"]),
((zm (ae 6) eU (dA (.a aU 2 1)))),
((kvs.any fun G=>decide (G.1=k))),
((fun b o _ _ U e _=>⟨o.slots,kp b o U e⟩)),
((fC (.str "out"))),
((.lst us))])
 return a.raw[1][2*i][1]
local macro_rules|`(.$c:ident)=>do
 let some i:="e3 e4 e5 e6 e7 e8 e9 fa fb fc fd fe ff fg fi fj fk fm fo fq fr ft fu fv fw fx fy fz fA fB fC fD fE fF fG fH fI fJ fK fL fM fN fO fP fQ fR fS fT fU fV fW fX fY fZ f0 f1 f2 f3 f4 f5 f6 f7 f8 f9 ga gb gd ge gf gg gh gi gj gk gl gm gn gq gr gs".splitOn.idxOf? c.getId.toString|Lean.Macro.throwUnsupported
 let a<-`([((.BoolOp .And (a::b::rest) pos)),
(Result->Shared->Prop),
(List Int),
(List Env),
(FuncData),
(if_pos rfl),
(lF P w H h),
(Option Int),
(List T->Option uN),
(["_law_name","_law_digits_here","_law_some"]),
((fun b o hb e=>kk b o (by simpa using hb) e)),
((.BoolOp .Or (a::b::rest) pos)),
(Inv X pins σ H { s with heap:=h',toks:=tk }),
([s1.heap.objs.size]),
(["self","name","terms"]),
((if k=f then (k,v)::r else (k,x)::km f v r)),
((fun x=>some (T.str x))),
((ar EW (aH 10) (aH 36))),
((.type "BaseException")),
((.Tuple [a,b] k2 g)),
((.Name nx q1)),
(.type "dict"),
(q _ _ _ A ⟨l,xs,rfl,aF,aM.mono A.sF h2⟩),
(typeOf .d5=pure (.type "method_descriptor")),
(V->List V->Hp->VK->Prop),
(SE X e f),
(Gp ps r),
([.type "object"]),
((a+1+b+k)),
((.af pos)),
((us.map O.val)),
((i, false)),
((b, false)),
(s (D2 ps)),
(mg o=some (.d C)),
(f τ=some (t,τ)),
((hl pins s σ H _ I h)),
((gE.of (R _ _ h1))),
((by simpa using e)),
((aS (.M (jO (b:=1))) rfl jO)),
((.str x)),
((.Compare a [i,l] [b,c] pos)),
((.BoolOp .And (b::rest) pos)),
(Str.ofString k=S l),
([s .y,s (.ptr a),none,none]),
([s (Pt.sum n us).obj]),
(["self","name"]),
(["_law_script"]),
((ho pins s2 σ H2 x y v u _ M r1 r2 q2)),
((h1.ext fun o e=>sa.extBut _ _ D.i1z e)),
((fun _ _=>True)),
((ar bI (ae 1) (aH 1))),
((Value.ref a == Value.none)),
((Str.ofString "0123456789")),
((.bl b)),
((.Name y n)),
((.BoolOp .Or (b::rest) pos)),
("EchoError"),
(aM K F ts vs),
(PE X a ta),
([a,b,c,d,e,f]),
([.aD,"_law_many"]),
([.Tuple [.Name x px,.Name y py] kt pt]),
((tx p.nam)),
((j.ext fun o e=>sa.extBut _ _ D.l1z e)),
((bx ns vs)),
((Int.gcd a b:Nat)),
((I.hok.fresh .bJ)),
((.Tuple es k pos)),
((w∈(ip ps d).map Pt.nam)),
((gN (h1 Y0 Y9) (h2 Y0 Y9))),
((by simpa [apart] using k)),
((.For tg iter body [] pos)),
(.ref 337),
("_law_parts_here"),
(dP X scope),
([.type "ValueError"]),
([.Tuple [.Name x px,.Name y n] kt pt]),
((Dv (aD (ah 2) (aD (ah 3) (.c 4 5))))),
(((free ps c).map fun n=>O.val (tx n)))])
 return a.raw[1][2*i][1]
local macro_rules|`(.$c:ident)=>do
 let some i:="gt gu gv gw gx gy gz gA gB gC gD gE gF gG gH gI gJ gK gL gM gN gO gP gQ gR gS gT gU gV gW gX gY gZ g0 g1 g2 g3 g4 g5 g6 g7 g8 g9 hc hf hg hh hj hq hr hs ht hu hv hw hy hA hB hC hD hE hF hG hH hJ hK hL hM hN hP hQ hR hS hT hU hV hW hX hY hZ".splitOn.idxOf? c.getId.toString|Lean.Macro.throwUnsupported
 let a<-`([(IsZip s.heap z TI TO .none),
(["_law_sign","_law_name"]),
((xy p8 (aH 1))),
((hb pins s1 σ H1 _ O q1)),
((by injection z)),
((.d 597)),
((.builtin "len")),
((.af p1)),
(SE X a fa),
(Def P w K mg base k "_law_drawn" 2 a),
([.s (gC a b),.s .cI,.s m,.s w,none]),
(["self","name",.cQ]),
((starEach [] X.env)),
((model P w)),
((fun x=>x.1.isSome)),
((b∈X.ex\/X.Y8.heap.objs.size≤b)),
((by rw [List.size_toArray]<;>omega)),
((aS rfl (aS (.ae rfl) rfl rfl) rfl)),
((.tup [kV G.1,G.2])),
(((n%10^36:Nat):Int)),
("_law_laid_here"),
(Meth K C "row" f),
(List T->Option O),
(⟨_,rfl,wpAny_pure h⟩),
([.ref 337]),
([.e (FF t.1),s (tx t.2)]),
((tx p.row)),
((cY [bW] "terms" (ae 0))),
((c, false)),
((.ref s1.heap.objs.size)),
((.Compare a [i] [b] pos)),
(ts[i]? = some ts[i]),
(fB (.ptr x)),
("other"),
("_law_part"),
((∀x∈l,ft (E x)=some (f x,E x))),
((zas (zau .aJ (I.ok.cab x c t U)))),
((ar G6 (nv 3 (.d bJ 3)) (.d oN 1))),
((ar EV (.J 3 0) (dz (.a .df .cd)))),
(List.length_filter_le ..),
(a.length+b.length≤1000),
(⟨Y0,Y9,q⟩),
(⟨0,0,0,0⟩),
([⟨target,iter,l,0⟩]),
([.int a,.int b]),
([.int (i.fdiv j),.int (i.fmod j)]),
(["text"]),
((zac.mpr rfl)),
((upd F a .bn)),
((tupleKind_room_in1 hu)),
((s1.trans A.sF)),
((ps.map Pt.obj,τ)),
((p2.endLine == p3.line)),
((fun b o U e=>⟨o,kp b o U e⟩)),
((fC (.str "cell"))),
((by simpa [cS] using n)),
((binaryOp .Add)),
((bR (ar G6 .af (aH 0)))),
((Obj.mapFields fn)),
((.d it)),
((.call (.d fa) ⟨[.ref a],[]⟩)),
(((ps.filter Pt.isOut).length:Nat)),
(I.tok _),
(jN c2 s.heap l2 ys),
(jN c1 s.heap l1 xs),
(aG N ps (ax st)),
(Meth K C "wants" f),
(Binds X.K fd ps ds),
([s .y,.cu,.fF,.aJ ord,s (bu [])]),
((fun _ _ _ _ _ _=>(cz q (.a 0)))),
((cY [cO,cn,bL,bW] "name" (ae 0))),
((ho pins s σ H _ I h)),
((fun m=>hb (zac.mp m))),
((HT.gc xs.length 0 lo)),
(((l.map Pt.nam).map S)),
((putK kvs k v).length≤sizeLine),
([.s .bB, .dF, none, none, none]),
([.s .a3,s (rS q)]),
(["self","values"]),
((zad _ hz))])
 return a.raw[1][2*i][1]
local macro_rules|`(.$c:ident)=>do
 let some i:="h3 h4 h5 h6 h7 h8 h9 ia ib ic id ie ig ih ii ij ik il im io ip iq ir it iu iv iw ix iy iz iA iB iC iD iE iF iG iH iI iJ iK iL iM iN iO iP iQ iR iS iT iU iV iW iX iY iZ i0 i1 i2 i3 i4 i5 i6 i7 i8 i9 ja jb jc jd je jf jg jh ji jj jk jl jm jn".splitOn.idxOf? c.getId.toString|Lean.Macro.throwUnsupported
 let a<-`([((ls.map S)),
((g i j)),
((fun b o _ _ U e _=>kp b o U e)),
((597,false)),
((fC (.ty "list"))),
((.v (.a 2))),
(fo τ=some (p.obj,τ1)),
(String->Option Builtin),
((ts,τ')),
((ns.map V.int)),
((ns.map T.int)),
((SP X pins Dn)),
(.ty "tuple"),
(Rep K F t v),
(H a=some (.ar fs)),
((Str->Option Value)->Heap->Prop),
([s (Pt.sum n ts).law]),
((r,false)),
((ne b _ C fun _ z=>by cases z)),
((j,false)),
((importedModules pg.main.body)),
((h,false)),
((fun vs H Q E z=>z.1)),
((fC .non)),
((c,false)),
((absHeap (uC w.params) 783 {})),
((Wp ps p)),
((Or.inr rfl)),
((.tup ts)),
((.tup [x,y])),
((.e 1 au)),
((.a3 (.m gW (fC (.str "\n"))))),
((.UnaryOp .Not a pos)),
(((gc n 0 lo:Nat):Int)),
(((gc items.size 0 lo:Nat):Int)),
((((ip ps d).map Pt.nam).map S)),
(.bl true),
(Addr->FI),
(¬ ((Sum.inr n:Key)=Sum.inr k)),
(ts.drop i=ts[i]::ts.drop (i+1)),
(.f (wpAny_standAt ?_)),
("_law_thing"),
(KV kvs vs),
((∃o',s.heap.get? b=some o')),
((tR tail sz a k)),
((p.kind::p.args)),
((importedModules p.main.body)),
((SeqAt.canLay_of_shaped hs.1)),
((GW rfl rfl rfl)),
((48≤c/\c≤57)),
((.Slice none none (.aX c) p2)),
((zau .aJ I.ok.above)),
((starEach [e] X.env)),
((k == NameKind.cell)),
((fun w=>⟨_,rfl⟩)),
((dz (ag .dt (bH 0)))),
((boot_heap w.params)),
((.lst [.bl x,.bl y])),
(Binds K fd ps []),
(⟨_,e,rfl⟩),
([p.obj,p.law]),
([115,117,109]),
((upd H a (.ext (oC a C od)))),
((sF2.trans a)),
((s'.trans s2)),
((i++[p])),
((fun _=>none)),
((cz a (.a 0))),
(([]:List Str)),
((.Name xn p1)),
(wpAny_truthy_bool ?_),
((.cn:List Str).Nodup),
(gg c2 s.heap i2 l2 k),
(gg c1 s.heap i1 l1 k),
(Str->Option NameKind),
(List V->Hp->VK->Prop),
(IsPair s.heap TO a b),
((l.map φ)),
((h, false)),
((.inr .ag))])
 return a.raw[1][2*i][1]
local macro_rules|`(.$c:ident)=>do
 let some i:="jo jp jq jr js jt ju jv jw jx jy jz jA jB jC jD jE jF".splitOn.idxOf? c.getId.toString|Lean.Macro.throwUnsupported
 let a<-`([(if_pos h),
(NameKind.cell),
(⟨vs,H1,O,r1,q1⟩),
([e1,.Starred e2 ps]),
([.s n,.aJ (ts.map kQ),none]),
([.e c,.e n,.t ts,.e l,.m k]),
(["parts"]),
((s (nt en))),
((ps.map Pt.row)),
((jl c ls)),
((ip ps d)),
((fun f vs=>PySem.call f vs)),
((fun d W hd q=>kp d W ?_ q)),
((false,τ')),
((dH yT _)),
((by rw [hk];decide)),
((bg e fr)),
((absHeap (T w.params) n {}))])
 return a.raw[1][2*i][1]
local macro_rules|`(.$c:ident $x)=>do
 let some i:="a c d e f h i j l m n o p q s t u v x y z B D G H I J L M O Q R S U V X Y Z aa ab ac ad ae af ag ah ai aj ak al am an ao aq ar au av aw ax ay az aA aB aC aD aE aF aG aH aI aJ aK aL aM aN aO aP aQ aR aS".splitOn.idxOf? c.getId.toString|Lean.Macro.throwUnsupported
 let a<-`([((aa $x  (pv $x))),
((upd $x  p (.frz o (.dK (bx d.1 vs))))),
((.ref $x)),
(s (.int $x)),
(wpAny_bind $x ),
((aI cg rfl t zaq (af $x  aj))),
((af (.a $x) aj)),
((.a (ar aU (ai $x  (ag (ae 0) (ag (ar aU (aH 4) (ae 9)) ao))) (ar gL (aH 7919) (ae 9))) (eI (ag (aH 5) (ag (aH 199) (ag (aH 12) (ag (aH 48) (ag (aH 48) (ag (aH 48) (ag (aH 48) ao)))))))))),
(cF $x  fun v s1 ⟨x,H1,O,r1,q1⟩=>?_),
(s (bj $x)),
((some (.own $x))),
((some (.sh $x))),
((false,eval $x  X.env)),
(wpAny_bind (wpAny_bind (wpAny_onRaise (?_:wpAny _ _ (Builtin.SmallTypes.nextOf (.d $x) >>= _) _ _ _)))),
(s (tx $x)),
(some (.own $x)),
((bc (aE 0 $x  rfl .t) (bc (aE 1 $x  rfl .t) dw))),
((br bw $x  au (fun _ _ => rfl))),
((ar aU (.a aU 2 1) (ae $x))),
((ts.map (fun t=>some (Sl.sh t))++List.replicate $x  none)),
(⟨.type "type", none,.cls $x,#[none,none,some (.str "Part" 592),some (.str "Part" 600),some .ad,some .aq]⟩),
(.DictComp kx $x  [⟨tg,iter,l,0⟩] scope pos),
((segRun_of (congrFun $x  os))),
((by rw [DU O];exact eq_self (t:=tx n) (kg rfl rfl) (aS rfl rfl rfl) $x  .e)),
((aw (aP $x))),
((s (bu (free ps $x)))),
((upd H s.heap.objs.size $x)),
((wpAny_bind $x)),
((aS rfl rfl $x)),
((fun _ _ _ _ _ _=>(eD $x))),
((fun _ _ _ _ _ _=>(ff rfl $x  (bq (bq eZ))))),
((some (.d $x))),
((List.mem_cons_of_mem _ $x)),
(zab.mpr ⟨ $x,.I⟩),
((eval $x  X.env)),
((Heap.get?_push_of_some _ $x)),
((fun _ _ _ _ _ _ => $x)),
((lE sc ps Q $x  none none none none)),
(aG .Z .Z (ax $x)),
((.a (.t $x  (aH 2)) (ar xD (eI (ag (.d bJ 7) ao)) (ar aU (ar aU (ae 3) (ae 4)) (aH 1))))),
((cL (SW.st (iK (bb .aH (.a 1) aY (aX _)) (fZ (ck (.u j (.i (.a 2) au)))))) $x  bA)),
(O.fpOk $x  (O.hok.fresh $x)),
((aA _ .aR $x)),
((.Name x $x)),
((compareOp $x)),
((wpAny_pure $x)),
(piece_app (.D $x) ?_),
((lE sc ps Q .aS v I $x  none)),
((.int $x)),
(if_pos $x ),
((aR (ae $x))),
((gT uU uU (aH 1) (.d bJ 0) (aH $x))),
((cR Jp "wants" (ae $x) ao)),
((ag (ar bI (ae 6) (ar aU (.x 3) (ae 9))) $x)),
((.ins C dx $x)),
((.bl (decide $x))),
(q _ _ _ (T.grow A) (((s1.trans s2).trans C).trans A.sF) $x ),
((.lst (List.replicate k.toNat $x).flatten)),
(List.filter_cons_of_neg $x ),
((bP fT rfl l rfl (af $x  aj))),
((af $x  aj)),
((envOfC qual scope s.heap.objs.size f $x)),
((ff rfl $x  (bq (bq eZ)))),
((cz $x  (.a 0))),
((.cons $x  .nil)),
(⟨⟨412,_, $x⟩,.a⟩),
((m7 L O a j (s (tx m)) $x)),
((Heap.get?_push_size _ $x)),
((wC sc c a b o m .cV (eE nm (a+1+b+k)) ts $x  d none)),
((if (S l).length≤sizeLine then some $x  else none)),
(s (bu $x)),
((.f bJ (.j (ae 1) (bR (ar eO .af $x))))),
((ar bI (ae 2) (ar dB $x  (.d bJ 2)))),
((gx za0 za1 jH jF aY $x)),
((.h (.a $x))),
(¬ $x ∈([]++[Str.ofString "name"]:List Str)),
((m7 L O a $x  none none)),
((cG $x  (bo (fC .Q)) bK)),
(ai bM (.a $x  (fC (.ty "int")))),
((handleBy (.d a) X.env $x))])
 return a.raw[1][2*i][1]
local macro_rules|`(.$c:ident $x)=>do
 let some i:="aT aU aV aW aX aY aZ a0 a1 a2 a3 a4 a5 a6 a7 a8 a9 ba bb bc bd be bf bg bh bi bj bm bn bo bp bq br bt bu bv bw bx bz".splitOn.idxOf? c.getId.toString|Lean.Macro.throwUnsupported
 let a<-`([((aE $x  bz.nd rfl .t)),
((Heap.lt_size $x)),
((cy 1 1 $x)),
((.Assign [.Name x pos'] $x  pos)),
((some $x)),
(⟨⟨_, $x⟩,.a⟩),
((bf 1 [2] (aR $x) (ah 0) (bR .cj) (ae 0))),
((.a (.t $x  (aH 1)) (ar aU (.x 3) (ae 5)))),
(.inr $x ),
((gK (bU $x))),
((ag $x  ao)),
(⟨.int $x,H,I.tok _,.ag,q⟩),
((eC aY (eC (oq (.aC $x)) yQ))),
((KN fun i j=>.bl (decide $x))),
(wpAny_passesOwn hp $x ),
(wpAny _ _ $x  _ _ s),
(aW (cZ $x)),
(IsZip $x  z TI TO .ellipsis),
((τ.set i $x)),
((cI no cap $x)),
((bV (.a $x))),
((T.bl (decide $x))),
((Ne.symm $x)),
((HK c n sz a tail ts .b3 $x)),
((.x (.s (.J 0 1) (aH 1)) $x)),
(zab.mpr $x ),
((.Constant $x  j pos)),
(⟨ $x,D.E.len,fun i s e=>?_,D.E.dj⟩),
(⟨.eL, none,.cls $x,.ae⟩),
(wpAny_truthy_bool $x ),
(fB (.ak $x)),
(.j (ae 0) (bU $x)),
((fun a ha=>hA a $x)),
(la (df $x  (b:=true) rfl)),
(cR [ $x ] "outs" (ae 3) ao),
((aI (xk rfl) rfl a rfl $x)),
((.Assign [.Name y n] $x  h)),
((wpAny_bind ?_:wpAny _ _ $x  _ _ _)),
((aI sL rfl q2 rfl $x))])
 return a.raw[1][2*i][1]
local macro_rules|`(.$c:ident $x $y)=>do
 let some i:="a c d e f h i j l m n o p q s t u v x y z B D G H I J L M O Q R S U V X Y Z aa ab ac ad ae af ag ah ai aj ak al am an ao aq ar au av aw ax ay az".splitOn.idxOf? c.getId.toString|Lean.Macro.throwUnsupported
 let a<-`([((ag $x  (ag $y  ao))),
((aD (ah $x) (aD (ah $y) bS))),
((ai $x  (bH $y))),
((br bw (.a $x) $y  .L)),
((ai $x  (ag $y  ao))),
((aT $x  hr rfl (.i $y) (ak aN))),
((af $x  (af $y  aj))),
((bf 1 [] (aR $x) (ah 0) $y  (ae 0))),
((bb (gM hr.units) $x  $y  (aX _))),
((ar $x  (ae 0) $y)),
((dN $x  rfl q6 rfl $y  (.a 0))),
(((bd.drop $x).take $y)),
(cK [(r, false), (i, false), (c, false), $x, $y, (h, false), (j, false)] (ae 0)),
(cK [(eX,false),(cO,false),(cn,false), $x, $y,(cQ,false),(cW,false)] (ae 0)),
((bR (ar eO $x  $y))),
((ai $x  (.a (ae 0) $y))),
((aT $x  hr rfl $y  .aB)),
((ag (ae $x) (bH $y))),
((cG $x  (bo $y) bK)),
(cK [(r,false),(i,false), $x,(b,false),(g,false), $y,(j,false)] (ae 0)),
(call_meets F.slot_str_split (typeIs_str _ _ _) F.entry_str_split (F.args_str_split_2 _ _) $x  $y ),
((aI lO rfl q6 rfl (.i $x  (qT rfl $y  rfl)))),
((bR (ar jM $x  $y))),
(cN pg w .m mg base 1 $x  "wants" 1 $y ),
((bb .aH $x  $y  (aX _))),
((aV $x  (.a $y) au)),
((.a bI $x  $y)),
(cN pg w .m mg base 1 $x  "row" 1 $y ),
((cL (SW.st $x) $y  bA)),
((upd (upd $x  dx (.own $y)) $y  (.ins C dx []))),
((bf 1 [] $x  (ah 0) aO $y)),
((field (.d $x) $y  >>= _)),
((aV bh $x  (.a $y))),
((bb ud $x  (eM rfl $y) (aX _))),
((af (.a $x) (.i $y))),
((.Subscript $x  $y  pos)),
((upd H $x  $y)),
((kf rfl $x  rfl (jm _) $y)),
((bf 2 [] (aR $x) .cr aO $y)),
((aT $x  hr rfl (.az $y) (ak aN))),
((ar aU (ar aU $x  (fC (.str "/"))) $y)),
((dZ $x  hr (.a $y))),
((.int $x  $y)),
((ux rfl gw.nd rfl rfl .e rfl rfl (.i $x  $y) rfl)),
((wpAny_bind $x :wpAny _ _ $y  _ _ _)),
((.a (fC (.ptr $x)) (fC (.ptr $y)))),
((gS (.s (ae 1) $x) $y)),
((dq $x  (pv $x) $y)),
((aI $x  rfl q6 rfl (.i (.a 0) $y))),
(.str (Txt.partition $x  $y).2.2),
(.str (Txt.partition $x  $y).2.1),
((bf 1 [1] (.am $x) (ah 0) aO $y)),
((wpAny_mono $x  $y  fun _ _ z=>z)),
(zab.mpr ⟨ $x, $y⟩),
(aG $x  $x  (ax $y)),
(bI (zo a b) (.ak $x)=some $y ),
(.str (Txt.partition $x  $y).1),
(wpAny_bind (wpAny_mono $x  $y  fun _ _ z=>z)),
((cL $x  (.H $y) bA)),
(zaJ $x  I.kIn $y  e .a6 h),
((bc $x  (bc $y  dw)))])
 return a.raw[1][2*i][1]
local macro_rules|`(.$c:ident $x $y $z)=>do
 let some i:="a c d e f".splitOn.idxOf? c.getId.toString|Lean.Macro.throwUnsupported
 let a<-`([((ar $x  (ae $y) (aH $z))),
((ar $x  (ae $y) (ae $z))),
(#[some (.d $x),none,some $y,some $z ,some .ad,some .aq]),
((bQ (N':=["part"]) (no:=1) (cap:=[]) rfl rfl .b0 rfl .bZ (bV $x) $y  (.O $z) .aU)),
((bP $x  rfl $y  rfl (.i $z)))])
 return a.raw[1][2*i][1]
local macro_rules|`($c:char $x)=>match c.getChar with|'0'=>`(some (.sh $x))|_=>Lean.Macro.throwUnsupported
set_option hygiene true
namespace My
open PySem PySem.Spec PyProof.Rows
def tp (i:Nat):Stmt:=PySem.Challenge.pw_echohouse_k21_wirings_told.main.body.getD i (.Pass .g9)
noncomputable def hA (s:Stmt):Arguments:=match s with
 | .FunctionDef _ a _ _ _ _ _ _ _ _=>a
 |_=>⟨[],[],none,[],[],none,[]⟩
def hB (s:Stmt):List Stmt:=match s with
 | .FunctionDef _ _ b _ _ _ _ _ _ _=>b
 |_=>[]
noncomputable def hS (s:Stmt):Scope:=match s with
 | .FunctionDef _ _ _ _ _ _ sc _ _ _=>sc
 |_=>{ kind:=.function,names:=[],isGenerator:=false,isCoroutine:=false }
noncomputable def tc (i j:Nat):Stmt:=match tp i with
 | .ClassDef _ _ _ body _ _ _ _ _ _ _=>body.getD j (.Pass .g9)
 |_=>.Pass .g9
abbrev pg:Program:=PySem.Challenge.pw_echohouse_k21_wirings_told
abbrev lw:PySem.W.OpenLaw:=PySem.Challenge.rw_echohouse_k21_wirings_told
noncomputable def qv:Program:={ pg with main:={ pg.main with body:=([0,2,3,4,5,6,7,8,9,11,12,13,14,15,16,17,18,20,21,22,23,24,25,26,27,28,29,30,32,33,34,35,36,37,39,40,41,42,43,44,45,46,47,48,49,50,51,52,53,54,55,56,57,58,59,60,61,63,64,65,66,67,68,69,70,71,72,73,74,75,76,77,78,79]:List Nat).map tp } }
def cf:Str := "/claim/cut.py"
noncomputable def Tv (nm p:Str)(t l n k:Nat)(a b c d e:Value):Obj:=⟨.type "code", none,.fields #[.str nm t,.str p (t+1),.str cf (t+2),.int l 0,.int n 0,.int 0 0,.int 0 0,.int 3 0,a,.bool true,.int 181 0,b,.none,c,d,e,.int k 0,.int l 0,.str cf (k+1)],#[]⟩
noncomputable def vX (c:Nat)(nm p:Str)(t l n k:Nat):Obj:=Tv nm p t l n k (.d (c-5)) (.d (c-4)) (.d (c-3)) (.d (c-2)) (.d (c-1))
noncomputable def L4 (c:Nat)(nm p:Str)(t l n k:Nat):Obj:=Tv nm p t l n k (.d (c-3)) (.d (c-2)) .none .none (.d (c-1))
def cA (c:Nat)(nm:Str)(t l n k:Nat):Obj:=vX c nm nm t l n k
def cB (c:Nat)(nm:Str)(t l n k:Nat):Obj:=L4 c nm nm t l n k
noncomputable def qK (s:Stmt)(nm p:Str)(pm:Value)(c:Addr):Obj:=⟨.type "function", none,.func (PySem.W.fnOf nm p (hA s) (hB s) (hS s) .none .none .none pm none (.d c) .none),#[]⟩
def fh (s:Stmt)(nm:Str)(pm:Value)(c:Addr):Obj:=qK s nm nm pm c
def de (P:Params)(x:Str)(t:Tok)(v:Value):DictEntry:=⟨PyData.keyHash P x,.str x t,v⟩
def mh:Value:=.str "law_echohouse_k21_wirings_told" 1085
def nC:Value:=.str "echohouse.parts" 590
def Gb:Value:=.str "echohouse.fracs" 503
def lG:Value:=.str "echohouse.wiring" 871
def Rl:Value:=.str "echohouse.divisors" 418
noncomputable def d3 (P:Params):List DictEntry:=[de P "__name__" 165 .z,de P "__doc__" 166 .dG,de P "__package__" 167 .dG,de P "__loader__" 168 (.builtin "__main__.__loader__#opaque"),de P "__spec__" 169 .dG,de P "__annotations__" 170 (.d 6),de P "__builtins__" 171 (.d 4),de P "__file__" 173 (.str "/claim/cut.py" 172),de P "__cached__" 174 .dG,de P "_wall" 193 (.d 21),de P "EchoError" 220 (.d 38),de P "NoFraction" 243 (.d 58),de P "NoFit" 266 (.d 77),de P "TooMany" 289 (.d 96),de P "NoText" 321 (.d 122),de P "NoPart" 353 (.d 148),de P "Twice" 385 (.d 174),de P "Ring" 417 (.d 200),de P "SHORT" 421 (.ae (4000) 420),de P "SHORT_HALF" 423 (.ae (256) 422),de P "common" 432 (.d 209),de P "half" 444 (.d 216),de P "stepped" 454 (.d 223),de P "step" 469 (.d 230),de P "upper_half" 486 (.d 237),de P "factors_joined" 502 (.d 244),de P "NOUGHT" 507 (.d 245),de P "MOST_FIGURES" 509 (.ae (30) 508),de P "is_whole" 516 (.d 252),de P "is_fraction" 525 (.d 259),de P "plus" 536 (.d 266),de P "minus" 544 (.d 273),de P "times" 554 (.d 280),de P "show_frac" 563 (.d 287),de P "figures" 572 (.d 294),de P "read_frac" 583 (.d 301),de P "is_figures" 589 (.d 306),de P "Part" 633 (.d 337),de P "In" 673 (.d 372),de P "Cell" 722 (.d 412),de P "Gain" 773 (.d 452),de P "Sum" 823 (.d 488),de P "Out" 870 (.d 528),de P "LETTERS" 874 (.str "abcdefghijklmnopqrstuvwxyz" 873),de P "LONGEST_NAME" 876 (.ae (8) 875),de P "MOST_TERMS" 878 (.ae (4) 877),de P "GREATEST_TOP" 880 (.ae (99) 879),de P "GREATEST_BOTTOM" 882 (.ae (12) 881),de P "MOST_ROWS" 884 (.ae (24) 883),de P "MOST_CELLS" 886 (.ae (4) 885),de P "MOST_LINES" 888 (.ae (2) 887),de P "Wiring" 978 .gy,de P "read_parts" 989 (.d 608),de P "read_part" 998 (.d 615),de P "read_gain" 1008 (.d 622),de P "read_factor" 1016 (.d 629),de P "read_sum" 1022 (.d 634),de P "are_names" 1028 (.d 639),de P "is_name" 1034 (.d 644),de P "refuse_names" 1044 (.d 651),de P "refuse_counts" 1050 (.d 656),de P "in_order" 1056 (.d 661),de P "free_names" 1062 (.d 666),de P "least_ring" 1072 (.d 673),de P "ring_from" 1078 (.d 678),de P "steps_back" 1084 (.d 683),de P "_law_cell" 1094 (.d 690),de P "_law_digits" 1105 (.d 697),de P "_law_mixed" 1116 (.d 704),de P "_law_drawn" 1122 (.d 709),de P "_law_names" 1128 (.d 714),de P "_law_frac" 1138 (.d 721),de P "_law_inner" 1149 (.d 728),de P "_law_parts" 1155 (.d 733),de P "_law_laid" 1161 (.d 738),de P "_law_frac_text" 1168 (.d 745),de P "_law_row" 1174 (.d 750),de P "_law_text" 1180 (.d 755),de P "_law_wants" 1186 (.d 760),de P "_law_kinds" 1194 (.d 767),de P "_law_part_good" 1200 (.d 772),de P "_law_order_good" 1206 (.d 777),de P "law" 1212 (.d 782)]
noncomputable def kk (P:Params):PySem.W.Frag:=[
(3,⟨.ft, none,.dict (d3 P).toArray 83,#[]⟩),
(37,⟨.ft, none,.dict #[de P "__module__" 203 .u,de P "__firstlineno__" 207 (.ae (5) 206),de P "word" 214 (.d 35),de P "__static_attributes__" 215 (.d 36),de P "__weakref__" 217 (.d 39),de P "__doc__" 218 .dG] 3,#[]⟩),
(38,(.bn ⟨.f3, .gn,.am,37,.f3, true,[],[.ref 58,.ref 77,.ref 96,.ref 122,.ref 148,.ref 174,.ref 200],false,none,false⟩)),
(57,⟨.ft, none,.dict #[de P "__module__" 228 .u,de P "__firstlineno__" 232 (.ae (9) 231),de P "word" 239 (.d 55),de P "__static_attributes__" 240 (.d 56),de P "__doc__" 241 .dG] 2,#[]⟩),
(58,⟨.eL, none,.cls ⟨"NoFraction", [.ref 38],[.ref 58,.ref 38,.dn, .dC, .cC, .an],57,"NoFraction", true,[],[],false,none,false⟩,#[some (.d 42),none,some (.str "NoFraction" 221),some (.str "NoFraction" 229),some .ak,some .aq]⟩),
(208,cA 208 "common" 424 52 2 430),
(209,fh (tp 13) "common" Rl 208),
(215,cA 215 "half" 433 61 2 442),
(216,fh (tp 14) "half" Rl 215),
(251,cA 251 "is_whole" 510 98 1 514),
(252,fh (tp 22) "is_whole" Gb 251),
(258,cA 258 "is_fraction" 517 100 1 523),
(259,fh (tp 23) "is_fraction" Gb 258),
(286,cA 286 "show_frac" 555 116 1 561),
(287,fh (tp 27) "show_frac" Gb 286),
(293,cA 293 "figures" 564 122 1 570),
(294,fh (tp 28) "figures" Gb 293),
(300,cA 300 "read_frac" 573 129 1 581),
(301,fh (tp 29) "read_frac" Gb 300),
(305,cB 305 "is_figures" 584 141 1 587),
(306,fh (tp 30) "is_figures" Gb 305),
(319,vX 319 "row" "Part.row" 604 146 1 608),
(320,qK (tc 32 0) "row" "Part.row" nC 319),
(326,vX 326 "wants" "Part.wants" 611 149 1 615),
(327,qK (tc 32 1) "wants" "Part.wants" nC 326),
(336,⟨.ft, none,.dict #[de P "__module__" 599 .p,de P "__firstlineno__" 603 (.ae (144) 602),de P "row" 610 (.d 320),de P "wants" 617 (.d 327),de P "tells" 625 (.d 334),de P "__static_attributes__" 626 (.d 335),de P "__dict__" 628 (.d 338),de P "__weakref__" 630 (.d 339),de P "__doc__" 631 .dG] 4,#[]⟩),
(337,(.z ⟨"Part", .fz,[.gk,.an],336,"Part", true,[],[.ref 372,.ref 412,.ref 452,.ref 488,.ref 528],false,none,false⟩)),
(354,vX 354 "__init__" "In.__init__" 646 156 2 651),
(355,qK (tc 33 0) "__init__" "In.__init__" nC 354),
(361,vX 361 "row" "In.row" 654 159 1 658),
(362,qK (tc 33 1) "row" "In.row" nC 361),
(371,⟨.ft, none,.dict #[de P "__module__" 641 .p,de P "__firstlineno__" 645 (.ae (154) 644),de P "__init__" 653 (.d 355),de P "row" 660 (.d 362),de P "tells" 668 (.d 369),de P "__static_attributes__" 670 (.d 370),de P "__doc__" 671 .dG] 2,#[]⟩),
(372,⟨.eL, none,.cls ⟨"In", .gR,[.ref 372,.gk,.an],371,"In", true,[],[],false,none,false⟩,.d 342 (.str "In" 634) (.str "In" 642)⟩),
(387,vX 387 "__init__" "Cell.__init__" 686 166 3 692),
(388,qK (tc 34 0) "__init__" "Cell.__init__" nC 387),
(394,vX 394 "row" "Cell.row" 695 170 1 699),
(395,qK (tc 34 1) "row" "Cell.row" nC 394),
(401,vX 401 "wants" "Cell.wants" 702 173 1 706),
(402,qK (tc 34 2) "wants" "Cell.wants" nC 401),
(411,⟨.ft, none,.dict #[de P "__module__" 681 .p,de P "__firstlineno__" 685 (.ae (164) 684),de P "__init__" 694 (.d 388),de P "row" 701 (.d 395),de P "wants" 708 (.d 402),de P "tells" 716 (.d 409),de P "__static_attributes__" 719 (.d 410),de P "__doc__" 720 .dG] 2,#[]⟩),
(412,⟨.eL, none,.cls ⟨"Cell", .gR,[.ref 412,.gk,.an],411,"Cell", true,[],[],false,none,false⟩,.d 375 (.str "Cell" 674) (.str "Cell" 682)⟩),
(427,vX 427 "__init__" "Gain.__init__" 735 180 4 742),
(428,qK (tc 35 0) "__init__" "Gain.__init__" nC 427),
(434,vX 434 "row" "Gain.row" 745 185 1 749),
(435,qK (tc 35 1) "row" "Gain.row" nC 434),
(441,vX 441 "wants" "Gain.wants" 752 188 1 756),
(442,qK (tc 35 2) "wants" "Gain.wants" nC 441),
(451,⟨.ft, none,.dict #[de P "__module__" 730 .p,de P "__firstlineno__" 734 (.ae (178) 733),de P "__init__" 744 (.d 428),de P "row" 751 (.d 435),de P "wants" 758 (.d 442),de P "tells" 766 (.d 449),de P "__static_attributes__" 770 (.d 450),de P "__doc__" 771 .dG] 2,#[]⟩),
(452,⟨.eL, none,.cls ⟨"Gain", .gR,[.ref 452,.gk,.an],451,"Gain", true,[],[],false,none,false⟩,.d 415 (.str "Gain" 723) (.str "Gain" 731)⟩),
(467,vX 467 "__init__" "Sum.__init__" 786 195 3 792),
(468,qK (tc 36 0) "__init__" "Sum.__init__" nC 467),
(472,L4 472 "row" "Sum.row" 795 199 1 798),
(473,qK (tc 36 1) "row" "Sum.row" nC 472),
(477,L4 477 "wants" "Sum.wants" 801 202 1 804),
(478,qK (tc 36 2) "wants" "Sum.wants" nC 477),
(487,⟨.ft, none,.dict #[de P "__module__" 781 .p,de P "__firstlineno__" 785 (.ae (193) 784),de P "__init__" 794 (.d 468),de P "row" 800 (.d 473),de P "wants" 806 (.d 478),de P "tells" 817 (.d 485),de P "__static_attributes__" 820 (.d 486),de P "__doc__" 821 .dG] 2,#[]⟩),
(488,⟨.eL, none,.cls ⟨"Sum", .gR,[.ref 488,.gk,.an],487,"Sum", true,[],[],false,none,false⟩,.d 455 (.str "Sum" 774) (.str "Sum" 782)⟩),
(503,vX 503 "__init__" "Out.__init__" 836 212 2 841),
(504,qK (tc 37 0) "__init__" "Out.__init__" nC 503),
(510,vX 510 "row" "Out.row" 844 215 1 848),
(511,qK (tc 37 1) "row" "Out.row" nC 510),
(517,vX 517 "wants" "Out.wants" 851 218 1 855),
(518,qK (tc 37 2) "wants" "Out.wants" nC 517),
(527,⟨.ft, none,.dict #[de P "__module__" 831 .p,de P "__firstlineno__" 835 (.ae (210) 834),de P "__init__" 843 (.d 504),de P "row" 850 (.d 511),de P "wants" 857 (.d 518),de P "tells" 865 (.d 525),de P "__static_attributes__" 867 (.d 526),de P "__doc__" 868 .dG] 2,#[]⟩),
(528,⟨.eL, none,.cls ⟨"Out", .gR,[.ref 528,.gk,.an],527,"Out", true,[],[],false,none,false⟩,.d 491 (.str "Out" 824) (.str "Out" 832)⟩),
(541,L4 541 "__init__" "Wiring.__init__" 901 234 2 904),
(542,qK (tc 47 0) "__init__" "Wiring.__init__" lG 541),
(548,vX 548 "text" "Wiring.text" 907 245 1 911),
(549,qK (tc 47 1) "text" "Wiring.text" lG 548),
(555,vX 555 "parts" "Wiring.parts" 914 248 1 918),
(556,qK (tc 47 2) "parts" "Wiring.parts" lG 555),
(562,vX 562 "ins" "Wiring.ins" 921 251 1 925),
(563,qK (tc 47 3) "ins" "Wiring.ins" lG 562),
(569,vX 569 "outs" "Wiring.outs" 928 254 1 932),
(570,qK (tc 47 4) "outs" "Wiring.outs" lG 569),
(574,L4 574 "cell_names" "Wiring.cell_names" 935 257 1 938),
(575,qK (tc 47 5) "cell_names" "Wiring.cell_names" lG 574),
(579,L4 579 "order" "Wiring.order" 941 260 1 944),
(580,qK (tc 47 6) "order" "Wiring.order" lG 579),
(596,⟨.ft, none,.dict #[de P "__module__" 896 .B,de P "__firstlineno__" 900 (.ae (232) 899),de P "__init__" 906 (.d 542),de P "text" 913 (.d 549),de P "parts" 920 (.d 556),de P "ins" 927 (.d 563),de P "outs" 934 (.d 570),de P "cell_names" 940 (.d 575),de P "order" 946 (.d 580),de P "run" 955 (.d 587),de P "values_at" 964 (.d 594),de P "__static_attributes__" 971 (.d 595),de P "__dict__" 973 (.d 598),de P "__weakref__" 975 (.d 599),de P "__doc__" 976 .dG] 4,#[]⟩),
(597,⟨.eL, none,.cls ⟨"Wiring", .fz,[.ref 597,.an],596,"Wiring", true,[],[],false,none,false⟩,#[none,none,some (.str "Wiring" 889),some (.str "Wiring" 897),some .ad,some .aq]⟩),
(607,cA 607 "read_parts" 979 268 1 987),
(608,fh (tp 48) "read_parts" lG 607),
(614,cA 614 "read_part" 990 276 1 996),
(615,fh (tp 49) "read_part" lG 614),
(621,cA 621 "read_gain" 999 289 3 1006),
(622,fh (tp 50) "read_gain" lG 621),
(628,cA 628 "read_factor" 1009 292 1 1014),
(629,fh (tp 51) "read_factor" lG 628),
(633,cB 633 "read_sum" 1017 298 2 1020),
(634,fh (tp 52) "read_sum" lG 633),
(638,cB 638 "are_names" 1023 301 2 1026),
(639,fh (tp 53) "are_names" lG 638),
(643,cB 643 "is_name" 1029 303 1 1032),
(644,fh (tp 54) "is_name" lG 643),
(650,cA 650 "refuse_names" 1035 305 1 1042),
(651,fh (tp 55) "refuse_names" lG 650),
(655,cB 655 "refuse_counts" 1045 316 1 1048),
(656,fh (tp 56) "refuse_counts" lG 655),
(660,cB 660 "in_order" 1051 324 1 1054),
(661,fh (tp 57) "in_order" lG 660),
(665,cB 665 "free_names" 1057 335 2 1060),
(666,fh (tp 58) "free_names" lG 665),
(689,cA 689 "_law_cell" 1087 359 2 1092),
(690,fh (tp 63) "_law_cell" mh 689),
(696,cA 696 "_law_digits" 1095 363 2 1103),
(697,fh (tp 64) "_law_digits" mh 696),
(703,cA 703 "_law_mixed" 1106 370 2 1114),
(704,fh (tp 65) "_law_mixed" mh 703),
(708,cB 708 "_law_drawn" 1117 377 2 1120),
(709,fh (tp 66) "_law_drawn" mh 708),
(713,cB 713 "_law_names" 1123 381 2 1126),
(714,fh (tp 67) "_law_names" mh 713),
(720,cA 720 "_law_frac" 1129 391 2 1136),
(721,fh (tp 68) "_law_frac" mh 720),
(727,cA 727 "_law_inner" 1139 396 3 1147),
(728,fh (tp 69) "_law_inner" mh 727),
(732,cB 732 "_law_parts" 1150 403 1 1153),
(733,fh (tp 70) "_law_parts" mh 732),
(737,cB 737 "_law_laid" 1156 419 2 1159),
(738,fh (tp 71) "_law_laid" mh 737),
(744,cA 744 "_law_frac_text" 1162 424 1 1166),
(745,fh (tp 72) "_law_frac_text" mh 744),
(749,cB 749 "_law_row" 1169 428 1 1172),
(750,fh (tp 73) "_law_row" mh 749),
(754,cB 754 "_law_text" 1175 434 1 1178),
(755,fh (tp 74) "_law_text" mh 754),
(759,cB 759 "_law_wants" 1181 436 1 1184),
(760,fh (tp 75) "_law_wants" mh 759),
(766,cA 766 "_law_kinds" 1187 442 1 1192),
(767,fh (tp 76) "_law_kinds" mh 766),
(771,cB 771 "_law_part_good" 1195 445 2 1198),
(772,fh (tp 77) "_law_part_good" mh 771),
(776,cB 776 "_law_order_good" 1201 456 2 1204),
(777,fh (tp 78) "_law_order_good" mh 776),
(781,cB 781 "law" 1207 469 1 1210),
(782,fh (tp 79) "law" mh 781)]
noncomputable def ka:List Addr:=[3,37,38,57,58,208,209,215,216,251,252,258,259,286,287,293,294,300,301,305,306,319,320,326,327,336,337,354,355,361,362,371,372,387,388,394,395,401,402,411,412,427,428,434,435,441,442,451,452,467,468,472,473,477,478,487,488,503,504,510,511,517,518,527,528,541,542,548,549,555,556,562,563,569,570,574,575,579,580,596,597,607,608,614,615,621,622,628,629,633,634,638,639,643,644,650,651,655,656,660,661,665,666,689,690,696,697,703,704,708,709,713,714,720,721,727,728,732,733,737,738,744,745,749,750,754,755,759,760,766,767,771,772,776,777,781,782]
theorem Ud (P:Params):ka=(kk P).map (·.1):=.a
abbrev hk:PySem.W.Hook:=PySem.W.kHook kk ka Ud
noncomputable abbrev xt (s:Shared):Bool:=PySem.W.xlAt qv [] s&&PySem.W.recOk (PySem.W.RowW.records lw.row.toRowW) s
open PySem.W PySem.Calls in
noncomputable def pM (tb:.ia)(p:.ai)(w:World)(b:Nat)(a:.dJ):Nat->SharedT->Thread->Option SharedT
 |0,_,_=>none
 |n+1,s,t=>match through t with
  |true=>some s
  |false=>match stepOk b a t with
   |false=>none
   |true=>match stepT (denote tb) p w s t with
    |some (s',t')=>pM tb p w b a n s' t'
    |none=>none
open PySem.W PySem.Calls in
theorem wU {tb:.ia}{p:.ai}{w:World}{b:Nat}{a:.dJ}:∀{n:Nat} {s:SharedT} {t:Thread} {r:SharedT},pM tb p w b a n s t=some r->topRun tb p w b a n s.abs t=some r.abs
 |0,_,_,_,e=>by simp [pM] at e
 |n+1,s,t,r,e=>by
  rw [pM] at e
  rw [topRun]
  cases h1:through t with
  |true=>rw [h1] at e;cases e;rfl
  |false =>
   rw [h1] at e
   dsimp only at e ⊢
   cases h2:stepOk b a t with
   |false=>rw [h2] at e;cases e
   |true =>
    rw [h2] at e
    dsimp only at e ⊢
    cases M:stepT (denote tb) p w s t with
    |none=>rw [M] at e;cases e
    |some x =>
     obtain⟨s',t'⟩:=x
     rw [M] at e
     rw [stepT_spec M]
     exact wU e
open PySem.W PySem.Calls in
noncomputable def Q6 (tb:.ia)(p:.ai)(w:World)(b:Nat)(a:.dJ):Nat->SharedT->Thread->Option (SharedT×Thread)
 |0,s,t=>some (s,t)
 |n+1,s,t=>match through t with
  |true=>none
  |false=>match stepOk b a t with
   |false=>none
   |true=>match stepT (denote tb) p w s t with
    |some (s',t')=>Q6 tb p w b a n s' t'
    |none=>none
open PySem.W PySem.Calls in
theorem G9 {tb:.ia}{p:.ai}{w:World}{b:Nat}{a:.dJ}:∀{n:Nat} {s s':SharedT} {t t':Thread},Q6 tb p w b a n s t=some (s',t')->topGo tb p w b a n s.abs t=some (s'.abs,t')
 |0,_,_,_,_,e=>by cases e;rfl
 |n+1,s,s',t,t',e=>by
  rw [Q6] at e
  rw [topGo]
  cases h1:through t with
  |true=>rw [h1] at e;cases e
  |false =>
   rw [h1] at e
   dsimp only at e ⊢
   cases h2:stepOk b a t with
   |false=>rw [h2] at e;cases e
   |true =>
    rw [h2] at e
    dsimp only at e ⊢
    cases M:stepT (denote tb) p w s t with
    |none=>rw [M] at e;cases e
    |some x =>
     obtain⟨s2,t2⟩:=x
     rw [M] at e
     rw [stepT_spec M]
     exact G9 e
noncomputable def alts {α:Type}:Bool->List α->List α
 |_,[]=>[]
 |true,a::l=>a::alts false l
 |false,_::l=>alts true l
noncomputable def CB:Nat->List Obj->PySem.W.BT
 |0,_=>.nil
 |_+1,[]=>.nil
 |n+1,o::l=>.node o (CB n (alts true l)) (CB n (alts false l))
def bol (P:Params):List Obj:=(PySem.W.boot_heap P).objs.toList
open PySem.W PySem.Calls in
theorem Pp {p q:.ai}{loose:.U}{Xt:Shared->Bool}{α:Type}{a:Shared->α}{b:World->α}{N n k M:Nat}{c:Bool}{T:Params->BT}(he:opening p=plainProg p.main.scope.names)(J:Nat.ble 600 N=true)(hf:∀s,fenceModules? p s=some s)
  (hz:∀w:World,((boot_heap w.params).isNs mainGlobals&&(Array.mk []:Array GenState).size == 0,(boot_heap w.params).objs.size,(boot_heap w.params).nsMap mainGlobals "__annotations__")=(true,11,some (.d 6)))
  (hr:∀(w:World) (os:OsState),topRun treeTable p w 11 (.R 6) M ⟨boot_heap w.params,Array.mk [],boot_drawn,boot_toks,os⟩ (topStub p)=some .a0) (le:Nat.ble M N=true)
  (j:∀w:World,(fun os:OsState=>staticsOk .iQ .i0 .jF&&namesBound p .jF&&gensDone .a0&&laidKept .i0 .jF)=fun _=>true)
  (r:∀w:World,(fun os:OsState=>(openSeen q loose .iQ Xt c .a0).1)=fun _=>(openGood q loose).1)
  (z:∀w:World,(fun os:OsState=>(openSeen q loose .iQ Xt c .a0).2)=fun _=>(openGood q loose).2)
  (B:∀w:World,(fun os:OsState=>a .a0)=fun _=>b w):
  LeftO p q loose Xt a b N c:=
 LeftO.of_pieces (H₀:=fun P=>boot_heap P) (H₁:=fun P=>absHeap (T P) n {}) (gs₀:=Array.mk []) (gs₁:=Array.mk []) (fun w=>boot_open he J hf w) hz hr le fun w=>by
  funext os
  exact Prod.ext (congrFun (j w) os) (Prod.ext (Prod.ext (congrFun (r w) os) (congrFun (z w) os)) (congrFun (B w) os))
noncomputable def Tx (s:Stmt)(nm p:Str):Obj:=⟨.none,none,.func ⟨nm,p,hA s,.stmts (hB s),hS s,0,[],.none,.none,.none,.none,none,.none,.none,0⟩,#[]⟩
def oT (vs:.S):Obj:=⟨.bu, none,.seq vs.toArray 0,#[]⟩
def oF:Obj:=⟨.none,none,.fields #[],#[]⟩
def Ry:Nat->List Str->List Value
 |_,[]=>[]
 |t,x::l=>.str x t::Ry (t+1) l
noncomputable def gA (a:Nat)(s:Stmt)(nm p:Str)(t l n:Nat)(vs:.U)(pm:Value):List Obj:=[oT [],oF,oT (Ry (t+3) vs),oT [],Tx s nm p,vX (a+5) nm p t l n (t+3+vs.length),qK s nm p pm (a+5)]
noncomputable def gB (a:Nat)(s:Stmt)(nm p:Str)(t l n:Nat)(pm:Value):List Obj:=[oT [],oF,Tx s nm p,L4 (a+3) nm p t l n (t+3),qK s nm p pm (a+3)]
noncomputable def SV:List (Nat×Nat×Nat):=[(1,0,20),(5,0,27),(9,0,47),(13,0,66),(17,0,85),(21,0,104),(28,0,130),(35,0,156),(42,0,182),(52,0,208),(61,0,215),(72,0,222),(77,0,229),(81,0,236),(91,0,243),(98,0,251),(100,0,258),(105,0,265),(110,0,272),(112,0,279),(116,0,286),(122,0,293),(129,0,300),(141,0,305),(144,0,312),(154,0,347),(164,0,380),(178,0,420),(193,0,460),(210,0,496),(232,0,536),(268,0,607),(276,0,614),(289,0,621),(292,0,628),(298,0,633),(301,0,638),(303,0,643),(305,0,650),(316,0,655),(324,0,660),(335,0,665),(337,0,672),(344,0,677),(352,0,682),(359,0,689),(363,0,696),(370,0,703),(377,0,708),(381,0,713),(391,0,720),(396,0,727),(403,0,732),(419,0,737),(424,0,744),(428,0,749),(434,0,754),(436,0,759),(442,0,766),(445,0,771),(456,0,776),(469,0,781)]
noncomputable def Cc (k:Nat):Obj:=⟨.none,none,.fields ((SV.take k).flatMap fun z=>[.int z.1 0,.int z.2.1 0,.ref z.2.2]).toArray,#[]⟩
noncomputable def o3 (P:Params)(e n:Nat)(v:Value):Obj:=⟨.type "dict", none,.dict (match d3 P with | []=>[] | z::l=>((⟨z.hash,z.key,v⟩:DictEntry)::l).take e).toArray n,#[]⟩
noncomputable def ob (P:Params):List Obj:=bol P++([.a1,
⟨.none,none,.fields #[.int (1) 0,.int (0) 0,.ref 20,.int (5) 0,.int (0) 0,.ref 27,.int (9) 0,.int (0) 0,.ref 47,.int (13) 0,.int (0) 0,.ref 66,.int (17) 0,.int (0) 0,.ref 85,.int (21) 0,.int (0) 0,.ref 104,.int (28) 0,.int (0) 0,.ref 130,.int (35) 0,.int (0) 0,.ref 156,.int (42) 0,.int (0) 0,.ref 182,.int (52) 0,.int (0) 0,.ref 208,.int (61) 0,.int (0) 0,.ref 215,.int (72) 0,.int (0) 0,.ref 222,.int (77) 0,.int (0) 0,.ref 229,.int (81) 0,.int (0) 0,.ref 236,.int (91) 0,.int (0) 0,.ref 243,.int (98) 0,.int (0) 0,.ref 251,.int (100) 0,.int (0) 0,.ref 258,.int (105) 0,.int (0) 0,.ref 265,.int (110) 0,.int (0) 0,.ref 272,.int (112) 0,.int (0) 0,.ref 279,.int (116) 0,.int (0) 0,.ref 286,.int (122) 0,.int (0) 0,.ref 293,.int (129) 0,.int (0) 0,.ref 300,.int (141) 0,.int (0) 0,.ref 305,.int (144) 0,.int (0) 0,.ref 312,.int (154) 0,.int (0) 0,.ref 347,.int (164) 0,.int (0) 0,.ref 380,.int (178) 0,.int (0) 0,.ref 420,.int (193) 0,.int (0) 0,.ref 460,.int (210) 0,.int (0) 0,.ref 496,.int (232) 0,.int (0) 0,.ref 536,.int (268) 0,.int (0) 0,.ref 607,.int (276) 0,.int (0) 0,.ref 614,.int (289) 0,.int (0) 0,.ref 621,.int (292) 0,.int (0) 0,.ref 628,.int (298) 0,.int (0) 0,.ref 633,.int (301) 0,.int (0) 0,.ref 638,.int (303) 0,.int (0) 0,.ref 643,.int (305) 0,.int (0) 0,.ref 650,.int (316) 0,.int (0) 0,.ref 655,.int (324) 0,.int (0) 0,.ref 660,.int (335) 0,.int (0) 0,.ref 665,.int (337) 0,.int (0) 0,.ref 672,.int (344) 0,.int (0) 0,.ref 677,.int (352) 0,.int (0) 0,.ref 682,.int (359) 0,.int (0) 0,.ref 689,.int (363) 0,.int (0) 0,.ref 696,.int (370) 0,.int (0) 0,.ref 703,.int (377) 0,.int (0) 0,.ref 708,.int (381) 0,.int (0) 0,.ref 713,.int (391) 0,.int (0) 0,.ref 720,.int (396) 0,.int (0) 0,.ref 727,.int (403) 0,.int (0) 0,.ref 732,.int (419) 0,.int (0) 0,.ref 737,.int (424) 0,.int (0) 0,.ref 744,.int (428) 0,.int (0) 0,.ref 749,.int (434) 0,.int (0) 0,.ref 754,.int (436) 0,.int (0) 0,.ref 759,.int (442) 0,.int (0) 0,.ref 766,.int (445) 0,.int (0) 0,.ref 771,.int (456) 0,.int (0) 0,.ref 776,.int (469) 0,.int (0) 0,.ref 781],#[]⟩,
⟨.type "code", none,.fields #[.str "<module>" 182,.str "<module>" 183,.str "/claim/cut.py" 184,.int (1) 0,.int (0) 0,.int (0) 0,.int (0) 0,.int (0) 0,.ref 11,.bool false,.int (181) 0,.ref 12,.none,.none,.none,.none,.int (185) 0,.int (1) 0,.str "/claim/cut.py" 186],#[]⟩,
⟨.type "frame", none,.plain,#[some (.d 13),some (.d 3),some (.d 3),none,some (.str "__main__" 164),none,some (.d 0)]⟩] ++
 (gA 15 (tp 0) "_wall" "_wall" 187 1 1 ["k"] (.str "__main__" 164) ++
 ([⟨.bu, none,.seq #[.type "ValueError"] 0,#[]⟩,
⟨.type "builtin_function_or_method", none,.fields #[.builtin "type.__prepare__", .type "type"],#[]⟩,
⟨.type "dict", none,.dict #[de P "__module__" 203 .u,de P "__qualname__" 205 (.str "EchoError" 204),de P "__firstlineno__" 207 (.ae (5) 206),de P "word" 214 (.d 35),de P "__static_attributes__" 215 (.d 36)] 5,#[]⟩,
⟨.type "tuple", none,.seq #[] 0,#[]⟩,
⟨.none,none,.fields #[.int (7) 0,.int (4) 0,.ref 34],#[]⟩,
⟨.type "code", none,.fields #[.str "EchoError" 198,.str "EchoError" 199,.str "/claim/cut.py" 200,.int (5) 0,.int (0) 0,.int (0) 0,.int (0) 0,.int (0) 0,.ref 25,.bool false,.int (181) 0,.ref 26,.none,.none,.none,.none,.int (201) 0,.int (5) 0,.str "/claim/cut.py" 202],#[]⟩,
⟨.type "frame", none,.plain,#[some (.d 27),some (.d 3),some (.d 24),none,some .u,none,some (.d 0)]⟩] ++
 (gA 29 (tc 2 0) "word" "EchoError.word" 208 7 1 .Z .u ++
 ([.a1,
⟨.type "dict", none,.dict #[de P "__module__" 203 .u,de P "__firstlineno__" 207 (.ae (5) 206),de P "word" 214 (.d 35),de P "__static_attributes__" 215 (.d 36),de P "__weakref__" 217 (.d 39),de P "__doc__" 218 .dG] 3,#[]⟩,
⟨.type "type", none,.cls ⟨.f3, .gn,.am,37,.f3, true,[],[.ref 58,.ref 77,.ref 96,.ref 122,.ref 148,.ref 174,.ref 200],false,none,false⟩,#[some (.d 22),none,some (.str "EchoError" 196),some (.str "EchoError" 204),some .ak,some .aq]⟩,
⟨.type "getset_descriptor", none,.fields #[.str "__weakref__" 216,.ref 38,.builtin "ExceptionGroup.__weakref__", .none],#[]⟩,
⟨.type "super", none,.fields #[.ref 38,.ref 38,.ref 38],#[]⟩,
⟨.type "builtin_function_or_method", none,.fields #[.builtin "object.__init_subclass__", .ref 38],#[]⟩,
⟨.type "tuple", none,.seq #[.ref 38] 0,#[]⟩,
⟨.type "builtin_function_or_method", none,.fields #[.builtin "type.__prepare__", .type "type"],#[]⟩,
⟨.type "dict", none,.dict #[de P "__module__" 228 .u,de P "__qualname__" 230 (.str "NoFraction" 229),de P "__firstlineno__" 232 (.ae (9) 231),de P "word" 239 (.d 55),de P "__static_attributes__" 240 (.d 56)] 5,#[]⟩,
⟨.type "tuple", none,.seq #[] 0,#[]⟩,
⟨.none,none,.fields #[.int (11) 0,.int (4) 0,.ref 54],#[]⟩,
⟨.type "code", none,.fields #[.str "NoFraction" 223,.str "NoFraction" 224,.str "/claim/cut.py" 225,.int (9) 0,.int (0) 0,.int (0) 0,.int (0) 0,.int (0) 0,.ref 45,.bool false,.int (181) 0,.ref 46,.none,.none,.none,.none,.int (226) 0,.int (9) 0,.str "/claim/cut.py" 227],#[]⟩,
⟨.type "frame", none,.plain,#[some (.d 47),some (.d 3),some (.d 44),none,some .u,none,some (.d 0)]⟩] ++
 (gA 49 (tc 3 0) "word" "NoFraction.word" 233 11 1 .Z .u ++
 ([.a1,
⟨.type "dict", none,.dict #[de P "__module__" 228 .u,de P "__firstlineno__" 232 (.ae (9) 231),de P "word" 239 (.d 55),de P "__static_attributes__" 240 (.d 56),de P "__doc__" 241 .dG] 2,#[]⟩,
⟨.type "type", none,.cls ⟨"NoFraction", [.ref 38],[.ref 58,.ref 38,.dn, .dC, .cC, .an],57,"NoFraction", true,[],[],false,none,false⟩,#[some (.d 42),none,some (.str "NoFraction" 221),some (.str "NoFraction" 229),some .ak,some .aq]⟩,
⟨.type "super", none,.fields #[.ref 58,.ref 58,.ref 58],#[]⟩,
⟨.type "builtin_function_or_method", none,.fields #[.builtin "object.__init_subclass__", .ref 58],#[]⟩,
⟨.type "tuple", none,.seq #[.ref 38] 0,#[]⟩,
⟨.type "builtin_function_or_method", none,.fields #[.builtin "type.__prepare__", .type "type"],#[]⟩,
⟨.type "dict", none,.dict #[de P "__module__" 251 .u,de P "__qualname__" 253 (.str "NoFit" 252),de P "__firstlineno__" 255 (.ae (13) 254),de P "word" 262 (.d 74),de P "__static_attributes__" 263 (.d 75)] 5,#[]⟩,
⟨.type "tuple", none,.seq #[] 0,#[]⟩,
⟨.none,none,.fields #[.int (15) 0,.int (4) 0,.ref 73],#[]⟩,
⟨.type "code", none,.fields #[.str "NoFit" 246,.str "NoFit" 247,.str "/claim/cut.py" 248,.int (13) 0,.int (0) 0,.int (0) 0,.int (0) 0,.int (0) 0,.ref 64,.bool false,.int (181) 0,.ref 65,.none,.none,.none,.none,.int (249) 0,.int (13) 0,.str "/claim/cut.py" 250],#[]⟩,
⟨.type "frame", none,.plain,#[some (.d 66),some (.d 3),some (.d 63),none,some .u,none,some (.d 0)]⟩] ++
 (gA 68 (tc 4 0) "word" "NoFit.word" 256 15 1 .Z .u ++
 ([.a1,
⟨.type "dict", none,.dict #[de P "__module__" 251 .u,de P "__firstlineno__" 255 (.ae (13) 254),de P "word" 262 (.d 74),de P "__static_attributes__" 263 (.d 75),de P "__doc__" 264 .dG] 2,#[]⟩,
⟨.type "type", none,.cls ⟨"NoFit", [.ref 38],[.ref 77,.ref 38,.dn, .dC, .cC, .an],76,"NoFit", true,[],[],false,none,false⟩,#[some (.d 61),none,some (.str "NoFit" 244),some (.str "NoFit" 252),some .ak,some .aq]⟩,
⟨.type "super", none,.fields #[.ref 77,.ref 77,.ref 77],#[]⟩,
⟨.type "builtin_function_or_method", none,.fields #[.builtin "object.__init_subclass__", .ref 77],#[]⟩,
⟨.type "tuple", none,.seq #[.ref 38] 0,#[]⟩,
⟨.type "builtin_function_or_method", none,.fields #[.builtin "type.__prepare__", .type "type"],#[]⟩,
⟨.type "dict", none,.dict #[de P "__module__" 274 .u,de P "__qualname__" 276 (.str "TooMany" 275),de P "__firstlineno__" 278 (.ae (17) 277),de P "word" 285 (.d 93),de P "__static_attributes__" 286 (.d 94)] 5,#[]⟩,
⟨.type "tuple", none,.seq #[] 0,#[]⟩,
⟨.none,none,.fields #[.int (19) 0,.int (4) 0,.ref 92],#[]⟩,
⟨.type "code", none,.fields #[.str "TooMany" 269,.str "TooMany" 270,.str "/claim/cut.py" 271,.int (17) 0,.int (0) 0,.int (0) 0,.int (0) 0,.int (0) 0,.ref 83,.bool false,.int (181) 0,.ref 84,.none,.none,.none,.none,.int (272) 0,.int (17) 0,.str "/claim/cut.py" 273],#[]⟩,
⟨.type "frame", none,.plain,#[some (.d 85),some (.d 3),some (.d 82),none,some .u,none,some (.d 0)]⟩] ++
 (gA 87 (tc 5 0) "word" "TooMany.word" 279 19 1 .Z .u ++
 ([.a1,
⟨.type "dict", none,.dict #[de P "__module__" 274 .u,de P "__firstlineno__" 278 (.ae (17) 277),de P "word" 285 (.d 93),de P "__static_attributes__" 286 (.d 94),de P "__doc__" 287 .dG] 2,#[]⟩,
⟨.type "type", none,.cls ⟨"TooMany", [.ref 38],[.ref 96,.ref 38,.dn, .dC, .cC, .an],95,"TooMany", true,[],[],false,none,false⟩,#[some (.d 80),none,some (.str "TooMany" 267),some (.str "TooMany" 275),some .ak,some .aq]⟩,
⟨.type "super", none,.fields #[.ref 96,.ref 96,.ref 96],#[]⟩,
⟨.type "builtin_function_or_method", none,.fields #[.builtin "object.__init_subclass__", .ref 96],#[]⟩,
⟨.type "tuple", none,.seq #[.ref 38] 0,#[]⟩,
⟨.type "builtin_function_or_method", none,.fields #[.builtin "type.__prepare__", .type "type"],#[]⟩,
⟨.type "dict", none,.dict #[de P "__module__" 297 .u,de P "__qualname__" 299 (.str "NoText" 298),de P "__firstlineno__" 301 (.ae (21) 300),de P "__init__" 309 (.d 112),de P "word" 316 (.d 119),de P "__static_attributes__" 318 (.d 120)] 6,#[]⟩,
⟨.type "tuple", none,.seq #[] 0,#[]⟩,
⟨.none,none,.fields #[.int (23) 0,.int (4) 0,.ref 111,.int (26) 0,.int (4) 0,.ref 118],#[]⟩,
⟨.type "code", none,.fields #[.str "NoText" 292,.str "NoText" 293,.str "/claim/cut.py" 294,.int (21) 0,.int (0) 0,.int (0) 0,.int (0) 0,.int (0) 0,.ref 102,.bool false,.int (181) 0,.ref 103,.none,.none,.none,.none,.int (295) 0,.int (21) 0,.str "/claim/cut.py" 296],#[]⟩,
⟨.type "frame", none,.plain,#[some (.d 104),some (.d 3),some (.d 101),none,some .u,none,some (.d 0)]⟩] ++
 (gA 106 (tc 6 0) "__init__" "NoText.__init__" 302 23 2 ["self","place"] .u ++
 (gA 113 (tc 6 1) "word" "NoText.word" 310 26 1 .Z .u ++
 ([⟨.bu, none,.seq #[.str "place" 317] 0,#[]⟩,
⟨.type "dict", none,.dict #[de P "__module__" 297 .u,de P "__firstlineno__" 301 (.ae (21) 300),de P "__init__" 309 (.d 112),de P "word" 316 (.d 119),de P "__static_attributes__" 318 (.d 120),de P "__doc__" 319 .dG] 2,#[]⟩,
⟨.type "type", none,.cls ⟨"NoText", [.ref 38],[.ref 122,.ref 38,.dn, .dC, .cC, .an],121,"NoText", true,[],[],false,none,false⟩,#[some (.d 99),none,some (.str "NoText" 290),some (.str "NoText" 298),some .ak,some .aq]⟩,
⟨.type "super", none,.fields #[.ref 122,.ref 122,.ref 122],#[]⟩,
⟨.type "builtin_function_or_method", none,.fields #[.builtin "object.__init_subclass__", .ref 122],#[]⟩,
⟨.type "tuple", none,.seq #[.ref 38] 0,#[]⟩,
⟨.type "builtin_function_or_method", none,.fields #[.builtin "type.__prepare__", .type "type"],#[]⟩,
⟨.type "dict", none,.dict #[de P "__module__" 329 .u,de P "__qualname__" 331 (.str "NoPart" 330),de P "__firstlineno__" 333 (.ae (28) 332),de P "__init__" 341 (.d 138),de P "word" 348 (.d 145),de P "__static_attributes__" 350 (.d 146)] 6,#[]⟩,
⟨.type "tuple", none,.seq #[] 0,#[]⟩,
⟨.none,none,.fields #[.int (30) 0,.int (4) 0,.ref 137,.int (33) 0,.int (4) 0,.ref 144],#[]⟩,
⟨.type "code", none,.fields #[.str "NoPart" 324,.str "NoPart" 325,.str "/claim/cut.py" 326,.int (28) 0,.int (0) 0,.int (0) 0,.int (0) 0,.int (0) 0,.ref 128,.bool false,.int (181) 0,.ref 129,.none,.none,.none,.none,.int (327) 0,.int (28) 0,.str "/claim/cut.py" 328],#[]⟩,
⟨.type "frame", none,.plain,#[some (.d 130),some (.d 3),some (.d 127),none,some .u,none,some (.d 0)]⟩] ++
 (gA 132 (tc 7 0) "__init__" "NoPart.__init__" 334 30 2 .fS .u ++
 (gA 139 (tc 7 1) "word" "NoPart.word" 342 33 1 .Z .u ++
 ([⟨.bu, none,.seq #[.str "name" 349] 0,#[]⟩,
⟨.type "dict", none,.dict #[de P "__module__" 329 .u,de P "__firstlineno__" 333 (.ae (28) 332),de P "__init__" 341 (.d 138),de P "word" 348 (.d 145),de P "__static_attributes__" 350 (.d 146),de P "__doc__" 351 .dG] 2,#[]⟩,
⟨.type "type", none,.cls ⟨"NoPart", [.ref 38],[.ref 148,.ref 38,.dn, .dC, .cC, .an],147,"NoPart", true,[],[],false,none,false⟩,#[some (.d 125),none,some (.str "NoPart" 322),some (.str "NoPart" 330),some .ak,some .aq]⟩,
⟨.type "super", none,.fields #[.ref 148,.ref 148,.ref 148],#[]⟩,
⟨.type "builtin_function_or_method", none,.fields #[.builtin "object.__init_subclass__", .ref 148],#[]⟩,
⟨.type "tuple", none,.seq #[.ref 38] 0,#[]⟩,
⟨.type "builtin_function_or_method", none,.fields #[.builtin "type.__prepare__", .type "type"],#[]⟩,
⟨.type "dict", none,.dict #[de P "__module__" 361 .u,de P "__qualname__" 363 (.str "Twice" 362),de P "__firstlineno__" 365 (.ae (35) 364),de P "__init__" 373 (.d 164),de P "word" 380 (.d 171),de P "__static_attributes__" 382 (.d 172)] 6,#[]⟩,
⟨.type "tuple", none,.seq #[] 0,#[]⟩,
⟨.none,none,.fields #[.int (37) 0,.int (4) 0,.ref 163,.int (40) 0,.int (4) 0,.ref 170],#[]⟩,
⟨.type "code", none,.fields #[.str "Twice" 356,.str "Twice" 357,.str "/claim/cut.py" 358,.int (35) 0,.int (0) 0,.int (0) 0,.int (0) 0,.int (0) 0,.ref 154,.bool false,.int (181) 0,.ref 155,.none,.none,.none,.none,.int (359) 0,.int (35) 0,.str "/claim/cut.py" 360],#[]⟩,
⟨.type "frame", none,.plain,#[some (.d 156),some (.d 3),some (.d 153),none,some .u,none,some (.d 0)]⟩] ++
 (gA 158 (tc 8 0) "__init__" "Twice.__init__" 366 37 2 .fS .u ++
 (gA 165 (tc 8 1) "word" "Twice.word" 374 40 1 .Z .u ++
 ([⟨.bu, none,.seq #[.str "name" 381] 0,#[]⟩,
⟨.type "dict", none,.dict #[de P "__module__" 361 .u,de P "__firstlineno__" 365 (.ae (35) 364),de P "__init__" 373 (.d 164),de P "word" 380 (.d 171),de P "__static_attributes__" 382 (.d 172),de P "__doc__" 383 .dG] 2,#[]⟩,
⟨.type "type", none,.cls ⟨"Twice", [.ref 38],[.ref 174,.ref 38,.dn, .dC, .cC, .an],173,"Twice", true,[],[],false,none,false⟩,#[some (.d 151),none,some (.str "Twice" 354),some (.str "Twice" 362),some .ak,some .aq]⟩,
⟨.type "super", none,.fields #[.ref 174,.ref 174,.ref 174],#[]⟩,
⟨.type "builtin_function_or_method", none,.fields #[.builtin "object.__init_subclass__", .ref 174],#[]⟩,
⟨.type "tuple", none,.seq #[.ref 38] 0,#[]⟩,
⟨.type "builtin_function_or_method", none,.fields #[.builtin "type.__prepare__", .type "type"],#[]⟩,
⟨.type "dict", none,.dict #[de P "__module__" 393 .u,de P "__qualname__" 395 (.str "Ring" 394),de P "__firstlineno__" 397 (.ae (42) 396),de P "__init__" 405 (.d 190),de P "word" 412 (.d 197),de P "__static_attributes__" 414 (.d 198)] 6,#[]⟩,
⟨.type "tuple", none,.seq #[] 0,#[]⟩,
⟨.none,none,.fields #[.int (44) 0,.int (4) 0,.ref 189,.int (47) 0,.int (4) 0,.ref 196],#[]⟩,
⟨.type "code", none,.fields #[.str "Ring" 388,.str "Ring" 389,.str "/claim/cut.py" 390,.int (42) 0,.int (0) 0,.int (0) 0,.int (0) 0,.int (0) 0,.ref 180,.bool false,.int (181) 0,.ref 181,.none,.none,.none,.none,.int (391) 0,.int (42) 0,.str "/claim/cut.py" 392],#[]⟩,
⟨.type "frame", none,.plain,#[some (.d 182),some (.d 3),some (.d 179),none,some .u,none,some (.d 0)]⟩] ++
 (gA 184 (tc 9 0) "__init__" "Ring.__init__" 398 44 2 ["self","names"] .u ++
 (gA 191 (tc 9 1) "word" "Ring.word" 406 47 1 .Z .u ++
 ([⟨.bu, none,.seq #[.str "names" 413] 0,#[]⟩,
⟨.type "dict", none,.dict #[de P "__module__" 393 .u,de P "__firstlineno__" 397 (.ae (42) 396),de P "__init__" 405 (.d 190),de P "word" 412 (.d 197),de P "__static_attributes__" 414 (.d 198),de P "__doc__" 415 .dG] 2,#[]⟩,
⟨.type "type", none,.cls ⟨"Ring", [.ref 38],[.ref 200,.ref 38,.dn, .dC, .cC, .an],199,"Ring", true,[],[],false,none,false⟩,#[some (.d 177),none,some (.str "Ring" 386),some (.str "Ring" 394),some .ak,some .aq]⟩,
⟨.type "super", none,.fields #[.ref 200,.ref 200,.ref 200],#[]⟩,
⟨.type "builtin_function_or_method", none,.fields #[.builtin "object.__init_subclass__", .ref 200],#[]⟩] ++
 (gA 203 (tp 13) "common" "common" 424 52 2 ["one",.g0,"factors"] .bV ++
 (gA 210 (tp 14) "half" "half" 433 61 2 ["one",.g0,"goal","factors","shift","further"] .bV ++
 (gA 217 (tp 15) "stepped" "stepped" 445 72 3 ["one",.g0,"goal","factors"] .bV ++
 (gA 224 (tp 16) "step" "step" 455 77 3 ["one",.g0,"factors","by","rest","a","b","c","d"] .bV ++
 (gA 231 (tp 17) "upper_half" "upper_half" 470 81 3 ["one",.g0,"shift","top","other_top","a","b","c","d","low","other_low"] .bV ++
 (gA 238 (tp 18) "factors_joined" "factors_joined" 487 91 2 ["further","factors","a","b","c","d","e","f","g","h"] .bV ++
 ([⟨.bu, none,.seq #[.int (0) 505,.int (1) 506] 0,#[]⟩] ++
 (gA 246 (tp 22) "is_whole" "is_whole" 510 98 1 ["thing"] .be ++
 (gA 253 (tp 23) "is_fraction" "is_fraction" 517 100 1 ["thing","top","bottom"] .be ++
 (gA 260 (tp 24) "plus" "plus" 526 105 2 ["one",.g0,"shared","top","low"] .be ++
 (gA 267 (tp 25) "minus" "minus" 537 110 2 ["one",.g0] .be ++
 (gA 274 (tp 26) "times" "times" 545 112 2 ["one",.g0,"left","right"] .be ++
 (gA 281 (tp 27) "show_frac" "show_frac" 555 116 1 ["one","sign","top"] .be ++
 (gA 288 (tp 28) "figures" "figures" 564 122 1 ["number","blocks","block"] .be ++
 (gA 295 (tp 29) "read_frac" "read_frac" 573 129 1 ["text","top","stroke","bottom","one"] .be ++
 (gB 302 (tp 30) "is_figures" "is_figures" 584 141 1 .be ++
 ([.a1,
⟨.type "builtin_function_or_method", none,.fields #[.builtin "type.__prepare__", .type "type"],#[]⟩,
⟨.type "dict", none,.dict #[de P "__module__" 599 .p,de P "__qualname__" 601 (.str "Part" 600),de P "__firstlineno__" 603 (.ae (144) 602),de P "row" 610 (.d 320),de P "wants" 617 (.d 327),de P "tells" 625 (.d 334),de P "__static_attributes__" 626 (.d 335)] 7,#[]⟩,
⟨.type "tuple", none,.seq #[] 0,#[]⟩,
⟨.none,none,.fields #[.int (146) 0,.int (4) 0,.ref 319,.int (149) 0,.int (4) 0,.ref 326,.int (152) 0,.int (4) 0,.ref 333],#[]⟩,
⟨.type "code", none,.fields #[.str "Part" 594,.str "Part" 595,.str "/claim/cut.py" 596,.int (144) 0,.int (0) 0,.int (0) 0,.int (0) 0,.int (0) 0,.ref 310,.bool false,.int (181) 0,.ref 311,.none,.none,.none,.none,.int (597) 0,.int (144) 0,.str "/claim/cut.py" 598],#[]⟩,
⟨.type "frame", none,.plain,#[some (.d 312),some (.d 3),some (.d 309),none,some .p,none,some (.d 0)]⟩] ++
 (gA 314 (tc 32 0) "row" "Part.row" 604 146 1 .Z .p ++
 (gA 321 (tc 32 1) "wants" "Part.wants" 611 149 1 .Z .p ++
 (gA 328 (tc 32 2) "tells" "Part.tells" 618 152 2 .hY .p ++
 ([.a1,
⟨.type "dict", none,.dict #[de P "__module__" 599 .p,de P "__firstlineno__" 603 (.ae (144) 602),de P "row" 610 (.d 320),de P "wants" 617 (.d 327),de P "tells" 625 (.d 334),de P "__static_attributes__" 626 (.d 335),de P "__dict__" 628 (.d 338),de P "__weakref__" 630 (.d 339),de P "__doc__" 631 .dG] 4,#[]⟩,
⟨.type "type", none,.cls ⟨"Part", .fz,[.gk,.an],336,"Part", true,[],[.ref 372,.ref 412,.ref 452,.ref 488,.ref 528],false,none,false⟩,#[none,none,some (.str "Part" 592),some (.str "Part" 600),some .ad,some .aq]⟩,
⟨.type "getset_descriptor", none,.fields #[.str "__dict__" 627,.ref 337,.builtin "function.__dict__", .builtin "function.__dict__#set"],#[]⟩,
⟨.type "getset_descriptor", none,.fields #[.str "__weakref__" 629,.ref 337,.builtin "ExceptionGroup.__weakref__", .none],#[]⟩,
⟨.type "super", none,.fields #[.ref 337,.ref 337,.ref 337],#[]⟩,
⟨.type "builtin_function_or_method", none,.fields #[.builtin "object.__init_subclass__", .ref 337],#[]⟩,
⟨.type "tuple", none,.seq #[.ref 337] 0,#[]⟩,
⟨.type "builtin_function_or_method", none,.fields #[.builtin "type.__prepare__", .type "type"],#[]⟩,
⟨.type "dict", none,.dict #[de P "__module__" 641 .p,de P "__qualname__" 643 (.str "In" 642),de P "__firstlineno__" 645 (.ae (154) 644),de P "__init__" 653 (.d 355),de P "row" 660 (.d 362),de P "tells" 668 (.d 369),de P "__static_attributes__" 670 (.d 370)] 7,#[]⟩,
⟨.type "tuple", none,.seq #[] 0,#[]⟩,
⟨.none,none,.fields #[.int (156) 0,.int (4) 0,.ref 354,.int (159) 0,.int (4) 0,.ref 361,.int (162) 0,.int (4) 0,.ref 368],#[]⟩,
⟨.type "code", none,.fields #[.str "In" 636,.str "In" 637,.str "/claim/cut.py" 638,.int (154) 0,.int (0) 0,.int (0) 0,.int (0) 0,.int (0) 0,.ref 345,.bool false,.int (181) 0,.ref 346,.none,.none,.none,.none,.int (639) 0,.int (154) 0,.str "/claim/cut.py" 640],#[]⟩,
⟨.type "frame", none,.plain,#[some (.d 347),some (.d 3),some (.d 344),none,some .p,none,some (.d 0)]⟩] ++
 (gA 349 (tc 33 0) "__init__" "In.__init__" 646 156 2 .fS .p ++
 (gA 356 (tc 33 1) "row" "In.row" 654 159 1 .Z .p ++
 (gA 363 (tc 33 2) "tells" "In.tells" 661 162 2 .hY .p ++
 ([⟨.bu, none,.seq #[.str "name" 669] 0,#[]⟩,
⟨.type "dict", none,.dict #[de P "__module__" 641 .p,de P "__firstlineno__" 645 (.ae (154) 644),de P "__init__" 653 (.d 355),de P "row" 660 (.d 362),de P "tells" 668 (.d 369),de P "__static_attributes__" 670 (.d 370),de P "__doc__" 671 .dG] 2,#[]⟩,
⟨.type "type", none,.cls ⟨"In", .gR,[.ref 372,.gk,.an],371,"In", true,[],[],false,none,false⟩,#[some (.d 342),none,some (.str "In" 634),some (.str "In" 642),some .ad,some .aq]⟩,
⟨.type "super", none,.fields #[.ref 372,.ref 372,.ref 372],#[]⟩,
⟨.type "builtin_function_or_method", none,.fields #[.builtin "object.__init_subclass__", .ref 372],#[]⟩,
⟨.type "tuple", none,.seq #[.ref 337] 0,#[]⟩,
⟨.type "builtin_function_or_method", none,.fields #[.builtin "type.__prepare__", .type "type"],#[]⟩,
⟨.type "dict", none,.dict #[de P "__module__" 681 .p,de P "__qualname__" 683 (.str "Cell" 682),de P "__firstlineno__" 685 (.ae (164) 684),de P "__init__" 694 (.d 388),de P "row" 701 (.d 395),de P "wants" 708 (.d 402),de P "tells" 716 (.d 409),de P "__static_attributes__" 719 (.d 410)] 8,#[]⟩,
⟨.type "tuple", none,.seq #[] 0,#[]⟩,
⟨.none,none,.fields #[.int (166) 0,.int (4) 0,.ref 387,.int (170) 0,.int (4) 0,.ref 394,.int (173) 0,.int (4) 0,.ref 401,.int (176) 0,.int (4) 0,.ref 408],#[]⟩,
⟨.type "code", none,.fields #[.str "Cell" 676,.str "Cell" 677,.str "/claim/cut.py" 678,.int (164) 0,.int (0) 0,.int (0) 0,.int (0) 0,.int (0) 0,.ref 378,.bool false,.int (181) 0,.ref 379,.none,.none,.none,.none,.int (679) 0,.int (164) 0,.str "/claim/cut.py" 680],#[]⟩,
⟨.type "frame", none,.plain,#[some (.d 380),some (.d 3),some (.d 377),none,some .p,none,some (.d 0)]⟩] ++
 (gA 382 (tc 34 0) "__init__" "Cell.__init__" 686 166 3 .gE .p ++
 (gA 389 (tc 34 1) "row" "Cell.row" 695 170 1 .Z .p ++
 (gA 396 (tc 34 2) "wants" "Cell.wants" 702 173 1 .Z .p ++
 (gA 403 (tc 34 3) "tells" "Cell.tells" 709 176 2 .hY .p ++
 ([⟨.bu, none,.seq #[.str "name" 717,.str "source" 718] 0,#[]⟩,
⟨.type "dict", none,.dict #[de P "__module__" 681 .p,de P "__firstlineno__" 685 (.ae (164) 684),de P "__init__" 694 (.d 388),de P "row" 701 (.d 395),de P "wants" 708 (.d 402),de P "tells" 716 (.d 409),de P "__static_attributes__" 719 (.d 410),de P "__doc__" 720 .dG] 2,#[]⟩,
⟨.type "type", none,.cls ⟨"Cell", .gR,[.ref 412,.gk,.an],411,"Cell", true,[],[],false,none,false⟩,#[some (.d 375),none,some (.str "Cell" 674),some (.str "Cell" 682),some .ad,some .aq]⟩,
⟨.type "super", none,.fields #[.ref 412,.ref 412,.ref 412],#[]⟩,
⟨.type "builtin_function_or_method", none,.fields #[.builtin "object.__init_subclass__", .ref 412],#[]⟩,
⟨.type "tuple", none,.seq #[.ref 337] 0,#[]⟩,
⟨.type "builtin_function_or_method", none,.fields #[.builtin "type.__prepare__", .type "type"],#[]⟩,
⟨.type "dict", none,.dict #[de P "__module__" 730 .p,de P "__qualname__" 732 (.str "Gain" 731),de P "__firstlineno__" 734 (.ae (178) 733),de P "__init__" 744 (.d 428),de P "row" 751 (.d 435),de P "wants" 758 (.d 442),de P "tells" 766 (.d 449),de P "__static_attributes__" 770 (.d 450)] 8,#[]⟩,
⟨.type "tuple", none,.seq #[] 0,#[]⟩,
⟨.none,none,.fields #[.int (180) 0,.int (4) 0,.ref 427,.int (185) 0,.int (4) 0,.ref 434,.int (188) 0,.int (4) 0,.ref 441,.int (191) 0,.int (4) 0,.ref 448],#[]⟩,
⟨.type "code", none,.fields #[.str "Gain" 725,.str "Gain" 726,.str "/claim/cut.py" 727,.int (178) 0,.int (0) 0,.int (0) 0,.int (0) 0,.int (0) 0,.ref 418,.bool false,.int (181) 0,.ref 419,.none,.none,.none,.none,.int (728) 0,.int (178) 0,.str "/claim/cut.py" 729],#[]⟩,
⟨.type "frame", none,.plain,#[some (.d 420),some (.d 3),some (.d 417),none,some .p,none,some (.d 0)]⟩] ++
 (gA 422 (tc 35 0) "__init__" "Gain.__init__" 735 180 4 .eW .p ++
 (gA 429 (tc 35 1) "row" "Gain.row" 745 185 1 .Z .p ++
 (gA 436 (tc 35 2) "wants" "Gain.wants" 752 188 1 .Z .p ++
 (gA 443 (tc 35 3) "tells" "Gain.tells" 759 191 2 .hY .p ++
 ([⟨.bu, none,.seq #[.str "by" 767,.str "name" 768,.str "source" 769] 0,#[]⟩,
⟨.type "dict", none,.dict #[de P "__module__" 730 .p,de P "__firstlineno__" 734 (.ae (178) 733),de P "__init__" 744 (.d 428),de P "row" 751 (.d 435),de P "wants" 758 (.d 442),de P "tells" 766 (.d 449),de P "__static_attributes__" 770 (.d 450),de P "__doc__" 771 .dG] 2,#[]⟩,
⟨.type "type", none,.cls ⟨"Gain", .gR,[.ref 452,.gk,.an],451,"Gain", true,[],[],false,none,false⟩,#[some (.d 415),none,some (.str "Gain" 723),some (.str "Gain" 731),some .ad,some .aq]⟩,
⟨.type "super", none,.fields #[.ref 452,.ref 452,.ref 452],#[]⟩,
⟨.type "builtin_function_or_method", none,.fields #[.builtin "object.__init_subclass__", .ref 452],#[]⟩,
⟨.type "tuple", none,.seq #[.ref 337] 0,#[]⟩,
⟨.type "builtin_function_or_method", none,.fields #[.builtin "type.__prepare__", .type "type"],#[]⟩,
⟨.type "dict", none,.dict #[de P "__module__" 781 .p,de P "__qualname__" 783 (.str "Sum" 782),de P "__firstlineno__" 785 (.ae (193) 784),de P "__init__" 794 (.d 468),de P "row" 800 (.d 473),de P "wants" 806 (.d 478),de P "tells" 817 (.d 485),de P "__static_attributes__" 820 (.d 486)] 8,#[]⟩,
⟨.type "tuple", none,.seq #[] 0,#[]⟩,
⟨.none,none,.fields #[.int (195) 0,.int (4) 0,.ref 467,.int (199) 0,.int (4) 0,.ref 472,.int (202) 0,.int (4) 0,.ref 477,.int (205) 0,.int (4) 0,.ref 484],#[]⟩,
⟨.type "code", none,.fields #[.str "Sum" 776,.str "Sum" 777,.str "/claim/cut.py" 778,.int (193) 0,.int (0) 0,.int (0) 0,.int (0) 0,.int (0) 0,.ref 458,.bool false,.int (181) 0,.ref 459,.none,.none,.none,.none,.int (779) 0,.int (193) 0,.str "/claim/cut.py" 780],#[]⟩,
⟨.type "frame", none,.plain,#[some (.d 460),some (.d 3),some (.d 457),none,some .p,none,some (.d 0)]⟩] ++
 (gA 462 (tc 36 0) "__init__" "Sum.__init__" 786 195 3 .fi .p ++
 (gB 469 (tc 36 1) "row" "Sum.row" 795 199 1 .p ++
 (gB 474 (tc 36 2) "wants" "Sum.wants" 801 202 1 .p ++
 (gA 479 (tc 36 3) "tells" "Sum.tells" 807 205 2 ["self","values","total","sign","name"] .p ++
 ([⟨.bu, none,.seq #[.str "name" 818,.str "terms" 819] 0,#[]⟩,
⟨.type "dict", none,.dict #[de P "__module__" 781 .p,de P "__firstlineno__" 785 (.ae (193) 784),de P "__init__" 794 (.d 468),de P "row" 800 (.d 473),de P "wants" 806 (.d 478),de P "tells" 817 (.d 485),de P "__static_attributes__" 820 (.d 486),de P "__doc__" 821 .dG] 2,#[]⟩,
⟨.type "type", none,.cls ⟨"Sum", .gR,[.ref 488,.gk,.an],487,"Sum", true,[],[],false,none,false⟩,#[some (.d 455),none,some (.str "Sum" 774),some (.str "Sum" 782),some .ad,some .aq]⟩,
⟨.type "super", none,.fields #[.ref 488,.ref 488,.ref 488],#[]⟩,
⟨.type "builtin_function_or_method", none,.fields #[.builtin "object.__init_subclass__", .ref 488],#[]⟩,
⟨.type "tuple", none,.seq #[.ref 337] 0,#[]⟩,
⟨.type "builtin_function_or_method", none,.fields #[.builtin "type.__prepare__", .type "type"],#[]⟩,
⟨.type "dict", none,.dict #[de P "__module__" 831 .p,de P "__qualname__" 833 (.str "Out" 832),de P "__firstlineno__" 835 (.ae (210) 834),de P "__init__" 843 (.d 504),de P "row" 850 (.d 511),de P "wants" 857 (.d 518),de P "tells" 865 (.d 525),de P "__static_attributes__" 867 (.d 526)] 8,#[]⟩,
⟨.type "tuple", none,.seq #[] 0,#[]⟩,
⟨.none,none,.fields #[.int (212) 0,.int (4) 0,.ref 503,.int (215) 0,.int (4) 0,.ref 510,.int (218) 0,.int (4) 0,.ref 517,.int (221) 0,.int (4) 0,.ref 524],#[]⟩,
⟨.type "code", none,.fields #[.str "Out" 826,.str "Out" 827,.str "/claim/cut.py" 828,.int (210) 0,.int (0) 0,.int (0) 0,.int (0) 0,.int (0) 0,.ref 494,.bool false,.int (181) 0,.ref 495,.none,.none,.none,.none,.int (829) 0,.int (210) 0,.str "/claim/cut.py" 830],#[]⟩,
⟨.type "frame", none,.plain,#[some (.d 496),some (.d 3),some (.d 493),none,some .p,none,some (.d 0)]⟩] ++
 (gA 498 (tc 37 0) "__init__" "Out.__init__" 836 212 2 ["self",.cQ] .p ++
 (gA 505 (tc 37 1) "row" "Out.row" 844 215 1 .Z .p ++
 (gA 512 (tc 37 2) "wants" "Out.wants" 851 218 1 .Z .p ++
 (gA 519 (tc 37 3) "tells" "Out.tells" 858 221 2 .hY .p ++
 ([⟨.bu, none,.seq #[.str "source" 866] 0,#[]⟩,
⟨.type "dict", none,.dict #[de P "__module__" 831 .p,de P "__firstlineno__" 835 (.ae (210) 834),de P "__init__" 843 (.d 504),de P "row" 850 (.d 511),de P "wants" 857 (.d 518),de P "tells" 865 (.d 525),de P "__static_attributes__" 867 (.d 526),de P "__doc__" 868 .dG] 2,#[]⟩,
⟨.type "type", none,.cls ⟨"Out", .gR,[.ref 528,.gk,.an],527,"Out", true,[],[],false,none,false⟩,#[some (.d 491),none,some (.str "Out" 824),some (.str "Out" 832),some .ad,some .aq]⟩,
⟨.type "super", none,.fields #[.ref 528,.ref 528,.ref 528],#[]⟩,
⟨.type "builtin_function_or_method", none,.fields #[.builtin "object.__init_subclass__", .ref 528],#[]⟩,
⟨.type "tuple", none,.seq #[] 0,#[]⟩,
⟨.type "builtin_function_or_method", none,.fields #[.builtin "type.__prepare__", .type "type"],#[]⟩,
⟨.type "dict", none,.dict #[de P "__module__" 896 .B,de P "__qualname__" 898 (.str "Wiring" 897),de P "__firstlineno__" 900 (.ae (232) 899),de P "__init__" 906 (.d 542),de P "text" 913 (.d 549),de P "parts" 920 (.d 556),de P "ins" 927 (.d 563),de P "outs" 934 (.d 570),de P "cell_names" 940 (.d 575),de P "order" 946 (.d 580),de P "run" 955 (.d 587),de P "values_at" 964 (.d 594),de P "__static_attributes__" 971 (.d 595)] 13,#[]⟩,
⟨.type "tuple", none,.seq #[] 0,#[]⟩,
⟨.none,none,.fields #[.int (234) 0,.int (4) 0,.ref 541,.int (245) 0,.int (4) 0,.ref 548,.int (248) 0,.int (4) 0,.ref 555,.int (251) 0,.int (4) 0,.ref 562,.int (254) 0,.int (4) 0,.ref 569,.int (257) 0,.int (4) 0,.ref 574,.int (260) 0,.int (4) 0,.ref 579,.int (263) 0,.int (4) 0,.ref 586,.int (266) 0,.int (4) 0,.ref 593],#[]⟩,
⟨.type "code", none,.fields #[.str "Wiring" 891,.str "Wiring" 892,.str "/claim/cut.py" 893,.int (232) 0,.int (0) 0,.int (0) 0,.int (0) 0,.int (0) 0,.ref 534,.bool false,.int (181) 0,.ref 535,.none,.none,.none,.none,.int (894) 0,.int (232) 0,.str "/claim/cut.py" 895],#[]⟩,
⟨.type "frame", none,.plain,#[some (.d 536),some (.d 3),some (.d 533),none,some .B,none,some (.d 0)]⟩] ++
 (gB 538 (tc 47 0) "__init__" "Wiring.__init__" 901 234 2 .B ++
 (gA 543 (tc 47 1) "text" "Wiring.text" 907 245 1 .Z .B ++
 (gA 550 (tc 47 2) "parts" "Wiring.parts" 914 248 1 .Z .B ++
 (gA 557 (tc 47 3) "ins" "Wiring.ins" 921 251 1 .Z .B ++
 (gA 564 (tc 47 4) "outs" "Wiring.outs" 928 254 1 .Z .B ++
 (gB 571 (tc 47 5) "cell_names" "Wiring.cell_names" 935 257 1 .B ++
 (gB 576 (tc 47 6) "order" "Wiring.order" 941 260 1 .B ++
 (gA 581 (tc 47 7) "run" "Wiring.run" 947 263 3 ["self","start","inputs"] .B ++
 (gA 588 (tc 47 8) "values_at" "Wiring.values_at" 956 266 3 ["self","state","given"] .B ++
 ([⟨.bu, none,.seq #[.str "all_parts" 965,.str "cell_parts" 966,.str "in_parts" 967,.str "inner_parts" 968,.str "out_parts" 969,.str "whole" 970] 0,#[]⟩,
⟨.type "dict", none,.dict #[de P "__module__" 896 .B,de P "__firstlineno__" 900 (.ae (232) 899),de P "__init__" 906 (.d 542),de P "text" 913 (.d 549),de P "parts" 920 (.d 556),de P "ins" 927 (.d 563),de P "outs" 934 (.d 570),de P "cell_names" 940 (.d 575),de P "order" 946 (.d 580),de P "run" 955 (.d 587),de P "values_at" 964 (.d 594),de P "__static_attributes__" 971 (.d 595),de P "__dict__" 973 (.d 598),de P "__weakref__" 975 (.d 599),de P "__doc__" 976 .dG] 4,#[]⟩,
⟨.type "type", none,.cls ⟨"Wiring", .fz,[.ref 597,.an],596,"Wiring", true,[],[],false,none,false⟩,#[none,none,some (.str "Wiring" 889),some (.str "Wiring" 897),some .ad,some .aq]⟩,
⟨.type "getset_descriptor", none,.fields #[.str "__dict__" 972,.ref 597,.builtin "function.__dict__", .builtin "function.__dict__#set"],#[]⟩,
⟨.type "getset_descriptor", none,.fields #[.str "__weakref__" 974,.ref 597,.builtin "ExceptionGroup.__weakref__", .none],#[]⟩,
⟨.type "super", none,.fields #[.ref 597,.ref 597,.ref 597],#[]⟩,
⟨.type "builtin_function_or_method", none,.fields #[.builtin "object.__init_subclass__", .ref 597],#[]⟩] ++
 (gA 602 (tp 48) "read_parts" "read_parts" 979 268 1 ["text","parts","place","row","part"] .B ++
 (gA 609 (tp 49) "read_part" "read_part" 990 276 1 ["row","word","words"] .B ++
 (gA 616 (tp 50) "read_gain" "read_gain" 999 289 3 ["name","number",.cQ,"by"] .B ++
 (gA 623 (tp 51) "read_factor" "read_factor" 1009 292 1 ["text","by"] .B ++
 (gB 630 (tp 52) "read_sum" "read_sum" 1017 298 2 .B ++
 (gB 635 (tp 53) "are_names" "are_names" 1023 301 2 .B ++
 (gB 640 (tp 54) "is_name" "is_name" 1029 303 1 .B ++
 (gA 645 (tp 55) "refuse_names" "refuse_names" 1035 305 1 ["parts","named","part","name"] .B ++
 (gB 652 (tp 56) "refuse_counts" "refuse_counts" 1045 316 1 .B ++
 (gB 657 (tp 57) "in_order" "in_order" 1051 324 1 .B ++
 (gB 662 (tp 58) "free_names" "free_names" 1057 335 2 .B ++
 (gA 667 (tp 59) "least_ring" "least_ring" 1063 337 1 ["wanted","many","start","ring"] .B ++
 (gB 674 (tp 60) "ring_from" "ring_from" 1073 344 3 .B ++
 (gB 679 (tp 61) "steps_back" "steps_back" 1079 352 3 .B ++
 (gA 684 (tp 63) "_law_cell" "_law_cell" 1087 359 2 .eX .z ++
 (gA 691 (tp 64) "_law_digits" "_law_digits" 1095 363 2 [.aD,"_law_bases","_law_found","_law_left","_law_base"] .z ++
 (gA 698 (tp 65) "_law_mixed" "_law_mixed" 1106 370 2 [.aD,"_law_many","_law_found","_law_number","_law_k"] .z ++
 (gB 705 (tp 66) "_law_drawn" "_law_drawn" 1117 377 2 .z ++
 (gB 710 (tp 67) "_law_names" "_law_names" 1123 381 2 .z ++
 (gA 715 (tp 68) "_law_frac" "_law_frac" 1129 391 2 ["_law_top","_law_bottom","_law_one","_law_other"] .z ++
 (gA 722 (tp 69) "_law_inner" "_law_inner" 1139 396 3 ["_law_name","_law_digits_here","_law_some","_law_terms","_law_digit"] .z ++
 (gB 729 (tp 70) "_law_parts" "_law_parts" 1150 403 1 .z ++
 (gB 734 (tp 71) "_law_laid" "_law_laid" 1156 419 2 .z ++
 (gA 739 (tp 72) "_law_frac_text" "_law_frac_text" 1162 424 1 ["_law_one"] .z ++
 (gB 746 (tp 73) "_law_row" "_law_row" 1169 428 1 .z ++
 (gB 751 (tp 74) "_law_text" "_law_text" 1175 434 1 .z ++
 (gB 756 (tp 75) "_law_wants" "_law_wants" 1181 436 1 .z ++
 (gA 761 (tp 76) "_law_kinds" "_law_kinds" 1187 442 1 [.iL,"_law_found"] .z ++
 (gB 768 (tp 77) "_law_part_good" "_law_part_good" 1195 445 2 .z ++
 (gB 773 (tp 78) "_law_order_good" "_law_order_good" 1201 456 2 .z ++
 (gB 778 (tp 79) "law" "law" 1207 469 1 .z)))))))))))))))))))))))))))))))))))))))))))))))))))))))))))))))))))))))))))))))))))))))))))))))))))))))))))))
noncomputable def Rz (P:Params):PySem.W.BT:=CB 12 ((((ob P).take 15).set 3 (o3 P 9 9 (.str "__main__" 164))).set 12 (Cc 0))
noncomputable def TF (P:Params):PySem.W.BT:=CB 12 (((((ob P).take 80).set 3 (o3 P 13 13 .u)).set 12 (Cc 4)).set 38 ((.bn ⟨.f3, .gn,.am,37,.f3, true,[],[.ref 58,.ref 77],false,none,false⟩)))
noncomputable def TH (P:Params):PySem.W.BT:=CB 12 (((((ob P).take 125).set 3 (o3 P 15 15 .u)).set 12 (Cc 6)).set 38 ((.bn ⟨.f3, .gn,.am,37,.f3, true,[],[.ref 58,.ref 77,.ref 96,.ref 122],false,none,false⟩)))
noncomputable def TJ (P:Params):PySem.W.BT:=CB 12 (((((ob P).take 177).set 3 (o3 P 17 17 .u)).set 12 (Cc 8)).set 38 ((.bn ⟨.f3, .gn,.am,37,.f3, true,[],[.ref 58,.ref 77,.ref 96,.ref 122,.ref 148,.ref 174],false,none,false⟩)))
def TK (P:Params):PySem.W.BT:=CB 12 ((((ob P).take 245).set 3 (o3 P 26 26 .bV)).set 12 (Cc 15))
noncomputable def TL (P:Params):PySem.W.BT:=CB 12 (((((ob P).take 342).set 3 (o3 P 38 38 .p)).set 12 (Cc 25)).set 337 ((.z ⟨"Part", .fz,[.gk,.an],336,"Part", true,[],[],false,none,false⟩)))
noncomputable def TN (P:Params):PySem.W.BT:=CB 12 (((((ob P).take 415).set 3 (o3 P 40 40 .p)).set 12 (Cc 27)).set 337 ((.z ⟨"Part", .fz,[.gk,.an],336,"Part", true,[],[.ref 372,.ref 412],false,none,false⟩)))
noncomputable def TQ (P:Params):PySem.W.BT:=CB 12 (((((ob P).take 491).set 3 (o3 P 42 42 .p)).set 12 (Cc 29)).set 337 ((.z ⟨"Part", .fz,[.gk,.an],336,"Part", true,[],[.ref 372,.ref 412,.ref 452,.ref 488],false,none,false⟩)))
def TR (P:Params):PySem.W.BT:=CB 12 ((((ob P).take 602).set 3 (o3 P 52 52 .B)).set 12 (Cc 31))
def TU (P:Params):PySem.W.BT:=CB 12 ((((ob P).take 705).set 3 (o3 P 69 69 .z)).set 12 (Cc 48))
def uC (P:Params):PySem.W.BT:=CB 12 (((ob P).set 3 (o3 P 83 83 .z)).set 12 (Cc 62))
abbrev bd:List Stmt:=pg.main.body
noncomputable def en:Env:={ scope:=pg.main.scope,locals:=mainNs,globals:=mainNs,cells:=[],code:=.ref 13,frame:=some 14 }
def cE:Code:=.body bd en
theorem h0 (P:Params):PySem.W.absHeap (CB 12 (bol P)) 11 {}=PySem.W.boot_heap P:=.a
set_option maxHeartbeats 0 in
open PySem.W PySem.Calls in
theorem hp (w:World):(fun os:OsState=>Q6 treeTable pg w 11 (.R 6) 12 ⟨CB 12 (bol w.params),11,{},#[],boot_drawn,boot_toks,os⟩ (topStub pg))=fun os=>some (.ba,⟨denote treeTable (.body bd en),cE,.g9,.aM⟩):=.a
set_option maxHeartbeats 0 in
open PySem.W PySem.Calls in
theorem hq (w:World):(fun os:OsState=>segRunT treeTable pg w 11 (.R 6) 1 1 .ba (blockOf bd en cE ⟨0,0,0,0⟩ .aM))=fun os=>some (.next,.ba,cE,⟨0,0,0,0⟩):=.a
set_option maxHeartbeats 0 in
open PySem.W PySem.Calls in
theorem TY (w:World):(fun os:OsState=>segRunT treeTable pg w 11 (.R 6) 1 741 .ba (piecesOf (.o 0 5) en cE ⟨0,0,0,0⟩ .aM))=fun os=>some (.next,(⟨TF w.params,80,{},#[],PySem.W.boot_drawn,267,os⟩:PySem.W.SharedT),cE,⟨13,0,16,23⟩):=.a
set_option maxHeartbeats 0 in
open PySem.W PySem.Calls in
theorem TZ (w:World):(fun os:OsState=>segRunT treeTable pg w 11 (.R 6) 1 520 (⟨TF w.params,80,{},#[],PySem.W.boot_drawn,267,os⟩:PySem.W.SharedT) (piecesOf (.o 5 2) en cE ⟨13,0,16,23⟩ .aM))=fun os=>some (.next,(⟨TH w.params,125,{},#[],PySem.W.boot_drawn,322,os⟩:PySem.W.SharedT),cE,⟨21,0,27,24⟩):=.a
set_option maxHeartbeats 0 in
open PySem.W PySem.Calls in
theorem T1 (w:World):(fun os:OsState=>segRunT treeTable pg w 11 (.R 6) 1 553 (⟨TH w.params,125,{},#[],PySem.W.boot_drawn,322,os⟩:PySem.W.SharedT) (piecesOf (.o 7 2) en cE ⟨21,0,27,24⟩ .aM))=fun os=>some (.next,(⟨TJ w.params,177,{},#[],PySem.W.boot_drawn,386,os⟩:PySem.W.SharedT),cE,⟨35,0,41,22⟩):=.a
set_option maxHeartbeats 0 in
open PySem.W PySem.Calls in
theorem T2 (w:World):(fun os:OsState=>segRunT treeTable pg w 11 (.R 6) 1 515 (⟨TJ w.params,177,{},#[],PySem.W.boot_drawn,386,os⟩:PySem.W.SharedT) (piecesOf (.o 9 10) en cE ⟨35,0,41,22⟩ .aM))=fun os=>some (.next,(⟨TK w.params,245,{},#[],PySem.W.boot_drawn,503,os⟩:PySem.W.SharedT),cE,⟨91,0,94,71⟩):=.a
set_option maxHeartbeats 0 in
open PySem.W PySem.Calls in
theorem T4 (w:World):(fun os:OsState=>segRunT treeTable pg w 11 (.R 6) 1 599 (⟨TK w.params,245,{},#[],PySem.W.boot_drawn,503,os⟩:PySem.W.SharedT) (piecesOf (.o 19 14) en cE ⟨91,0,94,71⟩ .aM))=fun os=>some (.next,(⟨TL w.params,342,{},#[],PySem.W.boot_drawn,634,os⟩:PySem.W.SharedT),cE,⟨144,0,153,21⟩):=.a
set_option maxHeartbeats 0 in
open PySem.W PySem.Calls in
theorem T5 (w:World):(fun os:OsState=>segRunT treeTable pg w 11 (.R 6) 1 650 (⟨TL w.params,342,{},#[],PySem.W.boot_drawn,634,os⟩:PySem.W.SharedT) (piecesOf (.o 33 2) en cE ⟨144,0,153,21⟩ .aM))=fun os=>some (.next,(⟨TN w.params,415,{},#[],PySem.W.boot_drawn,723,os⟩:PySem.W.SharedT),cE,⟨164,0,177,34⟩):=.a
set_option maxHeartbeats 0 in
open PySem.W PySem.Calls in
theorem T6 (w:World):(fun os:OsState=>segRunT treeTable pg w 11 (.R 6) 1 682 (⟨TN w.params,415,{},#[],PySem.W.boot_drawn,723,os⟩:PySem.W.SharedT) (piecesOf (.o 35 2) en cE ⟨164,0,177,34⟩ .aM))=fun os=>some (.next,(⟨TQ w.params,491,{},#[],PySem.W.boot_drawn,824,os⟩:PySem.W.SharedT),cE,⟨193,0,209,20⟩):=.a
set_option maxHeartbeats 0 in
open PySem.W PySem.Calls in
theorem T7 (w:World):(fun os:OsState=>segRunT treeTable pg w 11 (.R 6) 1 890 (⟨TQ w.params,491,{},#[],PySem.W.boot_drawn,824,os⟩:PySem.W.SharedT) (piecesOf (.o 37 11) en cE ⟨193,0,209,20⟩ .aM))=fun os=>some (.next,(⟨TR w.params,602,{},#[],PySem.W.boot_drawn,979,os⟩:PySem.W.SharedT),cE,⟨232,0,267,16⟩):=.a
set_option maxHeartbeats 0 in
open PySem.W PySem.Calls in
theorem T8 (w:World):(fun os:OsState=>segRunT treeTable pg w 11 (.R 6) 1 504 (⟨TR w.params,602,{},#[],PySem.W.boot_drawn,979,os⟩:PySem.W.SharedT) (piecesOf (.o 48 18) en cE ⟨232,0,267,16⟩ .aM))=fun os=>some (.next,(⟨TU w.params,705,{},#[],PySem.W.boot_drawn,1117,os⟩:PySem.W.SharedT),cE,⟨370,0,376,21⟩):=.a
set_option maxHeartbeats 0 in
open PySem.W PySem.Calls in
theorem R5 (w:World):(fun os:OsState=>segRunT treeTable pg w 11 (.R 6) 1 385 (⟨TU w.params,705,{},#[],PySem.W.boot_drawn,1117,os⟩:PySem.W.SharedT) (piecesOf (.o 66 14) en cE ⟨370,0,376,21⟩ .aM))=fun os=>some (.next,.cE,cE,⟨469,0,491,115⟩):=.a
set_option maxHeartbeats 0 in
open PySem.W PySem.Calls in
theorem hf (w:World):(fun os:OsState=>pM treeTable pg w 11 (.R 6) 2 .cE ⟨doneF .next,cE,⟨469,0,491,115⟩,.aM⟩)=fun os=>some .cE:=.a
theorem hb:bd=(.o 0 5)++((.o 5 2)++((.o 7 2)++((.o 9 10)++((.o 19 14)++((.o 33 2)++((.o 35 2)++((.o 37 11)++((.o 48 18)++((.o 66 14)++[]))))))))):=.a
open PySem.W PySem.Calls in
theorem hr (w:World)(os:OsState):topRun treeTable pg w 11 (.R 6) (12+(1+(741+(520+(553+(515+(599+(650+(682+(890+(504+(385+2)))))))))))) ⟨boot_heap w.params,Array.mk [],boot_drawn,boot_toks,os⟩ (topStub pg)=some .aO:=by
 have O:=G9 (congrFun (hp w) os)
 unfold SharedT.abs at O
 dsimp only at O
 rw [h0] at O
 refine go_top O (piece_block (.D (hq w)) ?_)
 have a:=wU (congrFun (hf w) os)
 unfold SharedT.abs at a
 rw [hb]
 refine .ai (TY w)
 refine .ai (TZ w)
 refine .ai (T1 w)
 refine .ai (T2 w)
 refine .ai (T4 w)
 refine .ai (T5 w)
 refine .ai (T6 w)
 refine .ai (T7 w)
 refine .ai (T8 w)
 refine .ai (R5 w)
 exact piece_nil a
set_option maxHeartbeats 0 in
open PySem.W PySem.Calls in
theorem T9 (w:World):(fun os:OsState=>staticsOk .ip .i0 .iv&&namesBound pg .iv&&gensDone .aO&&laidKept .i0 .iv)=fun _=>true:=.a
set_option maxHeartbeats 0 in
open PySem.W PySem.Calls in
theorem Q7 (w:World):(fun os:OsState=>(openSeen qv [] .ip xt true .aO).1)=fun _=>(openGood qv []).1:=.a
set_option maxHeartbeats 0 in
open PySem.W PySem.Calls in
theorem Ua (w:World):(fun os:OsState=>(openSeen qv [] .ip xt true .aO).2)=fun _=>(openGood qv []).2:=.a
set_option maxHeartbeats 0 in
open PySem.W PySem.Calls in
theorem Ub (w:World):(fun os:OsState=>hk.obs .aO)=fun _=>hk.val w:=.a
theorem hl:PySem.W.LeftO lw.row.prog qv [] xt hk.obs hk.val 12184:=Pp (p:=pg) .a .a (fun _=>by kernel_rfl) (fun _=>by kernel_rfl) hr .a T9 Q7 Ua Ub
theorem ws:lw.wellSaid=true:=.a
end My
namespace L2
open PySem PySem.Spec PyProof.Rows
abbrev Key:=Sum Int Str
def wy:Key->Value->Bool
 | .inl k,v=>Value.isInt k v
 | .inr x,v=>Value.isStrOf x v
def Sd (w:World):Key->Int
 | .inl k=>hashInt k
 | .inr x=>hashStr w x
theorem dr:∀{k:Key} {v:Value},wy k v=true->(∃i t,k=Sum.inl i/\v=Value.int i t)\/(∃x t,k=Sum.inr x/\v=Value.str x t)
 | .inl i,v,h=>by
  obtain⟨t,e⟩:=Value.isInt_shape (k:=i) (v:=v) h
  exact .inl ⟨i,t,rfl,e⟩
 | .inr x,v,h=>by
  obtain⟨t,e⟩:=Value.isStrOf_shape (x:=x) (v:=v) h
  exact .a1 ⟨x,t,rfl,e⟩
theorem Fm (i:Int)(t:Tok):wy (.inl i) (.ae i t)=true:=by simp [wy,Value.isInt]
theorem Fn (x:Str)(t:Tok):wy (.inr x) (.str x t)=true:=by simp [wy,Value.isStrOf]
theorem MD (a b:Int):decide ((Sum.inl a:Key)=Sum.inl b)=(a == b):=by
 by_cases e:a=b
 ·subst e;simp
 ·have h:¬ (Sum.inl a:Key)=Sum.inl b:=fun q=>e (Sum.inl.inj q)
  rw [decide_eq_false h]
  exact (beq_eq_false_iff_ne.mpr e).symm
theorem MG (a b:Str):decide ((Sum.inr a:Key)=Sum.inr b)=decide (a=b):=by
 by_cases e:a=b
 ·subst e;simp
 ·have h:¬ (Sum.inr a:Key)=Sum.inr b:=fun q=>e (Sum.inr.inj q)
  rw [decide_eq_false h,decide_eq_false e]
theorem ME (a:Int)(b:Str):decide ((Sum.inl a:Key)=Sum.inr b)=false:=decide_eq_false (fun q=>nomatch q)
theorem MF (a:Str)(b:Int):decide ((Sum.inr a:Key)=Sum.inl b)=false:=decide_eq_false (fun q=>nomatch q)
noncomputable def dh (prog:.ai)(w:World):PySem.KeyKind prog w Key where
 is:=wy
 hash:=Sd w
 inj:=fun v a b ha hb=>by
  rcases dr ha with ⟨i,t,rfl,rfl⟩ | ⟨x,t,rfl,rfl⟩
  ·rcases dr hb with ⟨j,u,rfl,e⟩ | ⟨y,u,rfl,e⟩
   ·injection e with e1 _;rw [e1]
   ·exact nomatch e
  ·rcases dr hb with ⟨j,u,rfl,e⟩ | ⟨y,u,rfl,e⟩
   ·exact nomatch e
   ·injection e with e1 _;rw [e1]
 byValue:=fun k v h=>by
  rcases dr h with ⟨i,t,rfl,rfl⟩ | ⟨x,t,rfl,rfl⟩<;>rfl
 pyHash:=fun Z h=>by
  rcases dr Z with ⟨i,t,rfl,rfl⟩ | ⟨x,t,rfl,rfl⟩
  ·exact wpAny_pyHash_int h
  ·exact wpAny_pyHash_str h
 eqBool:=fun hu Z h=>by
  rcases dr hu with ⟨i,t,rfl,rfl⟩ | ⟨x,t,rfl,rfl⟩
  ·rcases dr Z with ⟨j,u,rfl,rfl⟩ | ⟨y,u,rfl,rfl⟩
   ·rw [MD] at h;exact wpAny_eqBool_int h
   ·rw [ME] at h;exact SeqAt.EqAt.int_str i t y u _ _ _ _ h
  ·rcases dr Z with ⟨j,u,rfl,rfl⟩ | ⟨y,u,rfl,rfl⟩
   ·rw [MF] at h;exact SeqAt.EqAt.str_int x t j u _ _ _ _ h
   ·rw [MG] at h;exact wpAny_eqBool_str h
 «strs»:=fun k x t v h=>by
  rcases dr h with ⟨i,u,rfl,e⟩ | ⟨y,u,rfl,e⟩
  ·exact nomatch e
  ·injection e with e1 _
   subst e1
   cases v<;>rfl
theorem Ao (prog:.ai)(w:World)(i:Int)(t:Tok):(dh prog w).is (.inl i) (.ae i t)=true:=Fm i t
theorem Ap (prog:.ai)(w:World)(x:Str)(t:Tok):(dh prog w).is (.inr x) (.str x t)=true:=Fn x t
inductive V where
 |non | bl (b:Bool) | int (i:Int) | str (x:Str) | byt (b:Array UInt8) | flt (b:UInt64) | ref (a:Addr) | ty (n:String)
 deriving DecidableEq
noncomputable def RelV:V->Value->Prop
 | .non,u=>u=Value.none
 | .bl b,u=>u=Value.bool b
 | .int i,u=>∃t,u=Value.int i t
 | .str x,u=>∃t,u=Value.str x t
 | .byt b,u=>∃t,u=Value.bytes b t
 | .flt b,u=>∃t,u=Value.float b t
 | .ref a,u=>u=Value.ref a
 | .ty n,u=>u=Value.type n
abbrev Vals:List V->List Value->Prop:=Paired RelV
theorem Vals.length {xs:List V}{us:.S}(r:Vals xs us):xs.length=us.length:=Paired.length r
theorem Vals.get:∀{xs:List V} {us:.S} {i:Nat} {x:V},Vals xs us->xs[i]? = some x->∃u,us[i]? = some u/\RelV x u
 |_,_,_,_,.nil,e=>by simp at e
 |_,_,0,_,.cons r _,e=>by simp at e;subst e;exact⟨_,rfl,r⟩
 |_,_,i+1,x,.cons _ t,e=>by
  obtain⟨u,h1,h2⟩:=Vals.get (i:=i) (x:=x) t .fK
  exact⟨u,by simpa using h1,h2⟩
theorem Vals.append:∀{xs ys:List V} {us ws:.S},Vals xs us->Vals ys ws->Vals (xs++ys) (us++ws)
 |_,_,_,_,.nil,s=>s
 |_,_,_,_,.cons r t,s=>.cons r (Vals.append t s)
theorem Vals.take:∀{xs:List V} {us:.S} (n:Nat),Vals xs us->Vals (xs.take n) (us.take n)
 |_,_,0,_=>.nil
 |_,_,_+1,.nil=>.nil
 |_,_,n+1,.cons r t=>.cons r (Vals.take n t)
theorem Vals.drop:∀{xs:List V} {us:.S} (n:Nat),Vals xs us->Vals (xs.drop n) (us.drop n)
 |_,_,0,r=>r
 |_,_,_+1,.nil=>.nil
 |_,_,n+1,.cons _ t=>Vals.drop n t
def lI:Option V->Option Value->Prop
 |some v,some u=>RelV v u
 |none,none=>True
 |_,_=>False
noncomputable def KV {κ:Type}:List (κ×V)->List (κ×Value)->Prop:=Paired fun (p:κ×V) (q:κ×Value)=>p.1=q.1/\RelV p.2 q.2
def kV:Key->V
 | .inl i=>.int i
 | .inr x=>.str x
inductive HO where
  |lst (xs:List V)
  |tup (xs:List V)
  |dK (kvs:.bv) | dT (kvs:.ds)
  |set (S:Int->Bool) (n:Nat)
  |ins (C dx:Addr) (fs:List (Str×V))
  |own (x:Addr)
  |xd (fs:List (Str×V))
  |met (f x:Addr)
  |rng (lo hi:Int)
  |frz (o:Obj) (u:HO)
  |tbl (ps:.cP)
  |ext (φ:Heap->Prop)
abbrev Hp:=Addr->Option HO
def upd (H:Hp)(a:Addr)(o:HO):Hp:=fun b=>if b=a then some o else H b
theorem aF {H:Hp}{a:Addr}{o:HO}:upd H a o a=some o:=by unfold upd;rw [if_pos rfl]
theorem ay {H:Hp}{a b:Addr}{o:HO}(h:b≠a):upd H a o b=H b:=by unfold upd;rw [if_neg h]
theorem PB {H:Hp}{a b:Addr}{o u:HO}(h:H a=some o)(h':H b=some u)(d:o≠u):a≠b:=by
 intro e;subst e;rw [h] at h';exact d (zaN h')
theorem bg {H:Hp}{a b:Addr}{o:HO}(h:H a=some o)(h':H b=none):a≠b:=by
 intro e;subst e;rw [h] at h';cases h'
section
variable (P:.ai)(w:World)
noncomputable def di (H:Hp)(h:Heap)(a:Addr):HO->Prop
 | .lst xs=>xs.length≤sizeLine/\∃(G:.S) (n:Nat),Vals xs G/\h.get? a=some { cls:=.type "list", data:=.seq G.toArray n }
 | .tup xs=>xs.length≤sizeLine/\∃G:List Value,Vals xs G/\IsTup h a G.toArray
 | .dK kvs=>kvs.length≤sizeLine/\(a == sysModules)=false/\∃vs,KV kvs vs/\h.DictOf (dh P w) a vs
 | .dT kvs=>kvs.length≤sizeLine/\(a == sysModules)=false/\∃xs:List .di,
   Paired (fun (p:List Key×V) (q:List Key×Addr×Value)=>p.1=q.1/\H q.2.1=some (.tup (p.1.map kV))/\RelV p.2 q.2.2) kvs xs /\
   ∃o es ep,h.get? a=some o/\o.ExactDict/\o.data=.dict es ep/\es.toList=xs.map (entryOfKey (tupleKind (dh P w)))/\(xs.map (·.1)).Nodup
 | .set S n=>h.SetOf (intKind P w) a S n
 | .ins C dx fs=>H dx=some (.own a)/\fs.length≤1000/\dx≠a/\h.get? a=some (PySem.W.instObj C dx) /\
   ∃mA,h.Ns1 dx mA/\(∀f,lI (fs.lookup f) (mA f))/\PySem.Within mA (fs.map (·.1))
 | .own _=>∃o,h.get? a=some o
 | .xd fs=>∃mA,h.Ns1 a mA/\∀f,lI (fs.lookup f) (mA f)
 | .rng lo hi=>∃t u v,h.get? a=some { cls:=.type "range", data:=.fields #[.int lo t,.int hi u,.int 1 v] }
 | .frz o u=>h.get? a=some o/\di H h a u
 | .tbl ps=>h.get? a=some { cls:=.none,data:=.fields ps }
 | .met f x=>h.get? a=some (PySem.W.methodObj (.d f) (.d x))
 | .ext φ=>φ h/\(∃o,h.get? a=some o)/\∀h1 h2:Heap,φ h1->(∀o,h1.get? a=some o->h2.get? a=some o)->φ h2
def lF (H:Hp)(h:Heap):Prop:=∀a o,H a=some o->di P w H h a o
end
section
variable {P:.ai}{w:World}{H H':Hp}{h h':Heap}{a:Addr}{o:HO}
theorem di.lt (x:di P w H h a o):a<h.objs.size:=by
 cases o with
 |lst xs=>obtain⟨_,_,_,_,e⟩:=x;exact Heap.lt_size e
 |tup xs=>obtain⟨_,_,_,p⟩:=x;exact p.lt
 |dK kvs=>obtain⟨_,_,_,_,o,_,_,e,_⟩:=x;exact Heap.lt_size e
 |dT kvs=>obtain⟨_,_,_,_,o,_,_,e,_⟩:=x;exact Heap.lt_size e
 |set S n=>obtain⟨o,_,_,_,e,_⟩:=x;exact Heap.lt_size e
 |ins C dx fs=>obtain⟨_,_,_,e,_⟩:=x;exact Heap.lt_size e
 |own y=>obtain⟨_,e⟩:=x;exact Heap.lt_size e
 |xd fs=>obtain⟨_,⟨_,_,_,e,_⟩,_⟩:=x;exact Heap.lt_size e
 |rng lo hi=>obtain⟨_,_,_,e⟩:=x;exact Heap.lt_size e
 |frz ob u=>obtain⟨e,_⟩:=x;exact Heap.lt_size e
 |tbl ps=>exact Heap.lt_size (show h.get? a=some _ from x)
 |met f y=>exact Heap.lt_size (show h.get? a=some _ from x)
 |ext φ=>obtain⟨_,⟨_,e⟩,_⟩:=x;exact Heap.lt_size e
theorem Paired.mapP {α c:Type}{F G:α->c->Prop}:∀{l₁:List α} {l₂:List c},Paired F l₁ l₂->(∀a b,F a b->G a b)->Paired G l₁ l₂
 |_,_,.nil,_=>.nil
 |_,_,.cons r t,f=>.cons (f _ _ r) (Paired.mapP t f)
theorem di.stay (x:di P w H h a o)(k:∀b u,(b=a\/H b=some (.own a))->h.get? b=some u->h'.get? b=some u)
  (ho:∀b,H b=some (.own a)->H' b=some (.own a)) (Y:∀b xs,H b=some .dZ->H' b=some .dZ):di P w H' h' a o:=by
 induction o with
 |lst xs=>obtain⟨z,G,n,r,e⟩:=x;exact⟨z,G,n,r,k _ _ .bc e⟩
 |tup xs=>obtain⟨z,G,r,ob,e,c⟩:=x;exact⟨z,G,r,ob,k _ _ .bc e,c⟩
 |dK kvs=>obtain⟨z,y,vs,r,ob,es,ep,e,c⟩:=x;exact⟨z,y,vs,r,ob,es,ep,k _ _ .bc e,c⟩
 |dT kvs =>
  obtain⟨z,y,xs,r,ob,es,ep,e,c⟩:=x
  exact⟨z,y,xs,Paired.mapP r fun p q z=>⟨z.1,Y _ _ z.2.1,z.2.2⟩,ob,es,ep,k _ _ .bc e,c⟩
 |set S n=>obtain⟨ob,es,ep,t,e,c⟩:=x;exact⟨ob,es,ep,t,k _ _ .bc e,c⟩
 |ins C dx fs =>
  obtain⟨d,z,ne,e,mA,⟨od,es,ep,e2,c⟩,r⟩:=x
  exact⟨ho _ d,z,ne,k _ _ .bc e,mA,⟨od,es,ep,k _ _ (.inr d) e2,c⟩,r⟩
 |own y=>obtain⟨ob,e⟩:=x;exact⟨ob,k _ _ .bc e⟩
 |xd fs=>obtain⟨mA,⟨od,es,ep,e,c⟩,r⟩:=x;exact⟨mA,⟨od,es,ep,k _ _ .bc e,c⟩,r⟩
 |rng lo hi=>obtain⟨t,u,v,e⟩:=x;exact⟨t,u,v,k _ _ .bc e⟩
 |frz ob u A=>obtain⟨e,q⟩:=x;exact⟨k _ _ .bc e,A q⟩
 |tbl ps =>
  have e:h.get? a=some { cls:=.none,data:=.fields ps }:=x
  show h'.get? a=some { cls:=.none,data:=.fields ps }
  exact k a _ .bc e
 |met f y =>
  have e:h.get? a=some (PySem.W.methodObj (.d f) (.d y)):=x
  show h'.get? a=some (PySem.W.methodObj (.d f) (.d y))
  exact k a _ .bc e
 |ext φ=>obtain⟨p,⟨o,e⟩,st⟩:=x;exact⟨st _ _ p fun o q=>k _ _ .bc q,⟨o,k _ _ .bc e⟩,st⟩
theorem lF.lt (x:.e9)(e:H a=some o):a<h.objs.size:=(x a o e).lt
theorem lF.fresh (x:.e9)(e:h.objs.size≤a):H a=none:=by
 cases q:H a with
 |none=>rfl
 |some u=>exact absurd (zau (x.lt q) e) (za4 _)
theorem lF.kept (x:.e9)(k:∀b u,h.get? b=some u->h'.get? b=some u):lF P w H h':=fun a o e =>
 (x a o e).stay (fun b u _ q=>k b u q) (fun _ q=>q) fun _ _ q=>q
theorem lF.laid (x:.e9)(k:∀b u,h.get? b=some u->h'.get? b=some u)(hp:h.objs.size≤a)(new:di P w (.Y a o) h' a o):lF P w (.Y a o) h':=fun b u e=>by
 have hn:=x.fresh hp
 by_cases hb:b=a
 ·subst hb;rw [aF] at e;cases e;exact new
 ·rw [ay hb] at e
  exact (x b u e).stay (fun c v _ q=>k c v q) (fun c q=>by rw [ay (bg q hn)];exact q) fun c xs q=>by rw [ay (bg q hn)];exact q
end
def Rd (H:Hp)(a:Addr)(u:HO):Prop:=H a=some u\/∃o,H a=some (.frz o u)
theorem Rd.ok {P:.ai}{w:World}{H:Hp}{h:Heap}{a:Addr}{u:HO}(r:Rd H a u)(x:.e9):di P w H h a u:=by
 rcases r with r | ⟨o,r⟩
 ·exact x a u r
 ·obtain⟨_,q⟩:=x a _ r
  exact q
noncomputable def Ox:Option HO->Prop
 |some (.lst _)=>True
 |some (.dK _)=>True
 |some (.dT _)=>True
 |some (.set _ _)=>True
 |some (.ins _ _ _)=>True
 |some (.ext _)=>True
 |_=>False
section
variable {P:.ai}{w:World}{H:Hp}{h h':Heap}{x e:Addr}{o':HO}
theorem lF.write (ok:.e9)(f:Ox (H x))(he:e=x\/H e=some (.own x))(k:∀b u,b≠e->h.get? b=some u->h'.get? b=some u)(g:∃u,h'.get? e=some u)
  (new:di P w (.Y x o') h' x o'):lF P w (.Y x o') h':=fun b u q=>by
 have a:∀c y,H c=some (.own y)->c≠x:=fun c y r z=>by subst z;rw [r] at f;exact f
 have i:∀c xs,H c=some .dZ->c≠x:=fun c xs r z=>by subst z;rw [r] at f;exact f
 by_cases hb:b=x
 ·subst hb;rw [aF] at q;cases q;exact new
 ·rw [ay hb] at q
  by_cases d:b=e
  ·have G:H b=some (.own x):=by
    rcases he with z | z
    ·exact absurd (d.trans z) hb
    ·rw [d];exact z
   rw [q] at G;cases G
   obtain⟨v,Z⟩:=g
   exact⟨v,by rw [d];exact Z⟩
  ·refine (ok b u q).stay (fun c v U r=>k c v ?_ r) (fun c r=>by rw [ay (a c b r)];exact r) fun c xs r=>by rw [ay (i c xs r)];exact r
   rcases U with rfl | U
   ·exact d
   ·rintro rfl
    rcases he with z | z
    ·exact a c b U z
    ·rw [U] at z;cases z;exact hb rfl
end
structure Un (fs ex:.V)(H H':Hp)(h h':Heap):Prop where
 keep:∀b o,h.get? b=some o->H b=none->b∉fs->b∉ex->h'.get? b=some o
 slot:∀b o,h.get? b=some o->H b=none->b∈fs->b∉ex->∃sl,h'.get? b=some { o with slots:=sl }
 free:∀b o,h.get? b=some o->H b=none->b∉ex->H' b=none
 there:∀b o,h.get? b=some o->b∉ex->∃o',h'.get? b=some o'
 tups:∀b xs,H b=some .dZ->H' b=some .dZ
 frzs:∀b o u,H b=some (.frz o u)->H' b=some (.frz o u)
 tbls:∀b ps,H b=some (.tbl ps)->∃more,H' b=some (.tbl (ps++more))
section
variable {fs fs' ex ex':.V}{H H1 H2:Hp}{h h1 h2 h':Heap}{a x e:Addr}{o:HO}
theorem Un.any (u:Un fs ex H H1 h h1){b:Addr}{ob:Obj}(q:h.get? b=some ob)(n:H b=none)(hx:b∉ex):∃sl,h1.get? b=some { ob with slots:=sl }:=by
 by_cases hb:b∈fs
 ·exact u.slot b ob q n hb hx
 ·exact⟨ob.slots,u.keep b ob q n hb hx⟩
theorem Un.kept (k:∀b u,h.get? b=some u->h'.get? b=some u):Un fs ex H H h h':=
 ⟨fun b ob q _ _ _=>k b ob q,fun b ob q _ _ _=>⟨ob.slots,k b ob q⟩,fun _ _ _ n _=>n,fun b ob q _=>⟨ob,k b ob q⟩,fun _ _ q=>q,fun _ _ _ q=>q,fun _ ps q=>⟨#[],by rw [q];simp⟩⟩
theorem Un.refl:Un fs ex H H h h:=Un.kept fun _ _ q=>q
theorem Un.laid (k:∀b u,h.get? b=some u->h'.get? b=some u)(hp:h.objs.size≤a)(hn:H a=none):Un fs ex H (.Y a o) h h' where
 keep:=fun b u q _ _ _=>k b u q
 slot:=fun b u q _ _ _=>⟨u.slots,k b u q⟩
 free:=fun b u q n _=>by rw [ay (zas (zau (.aU q) hp))];exact n
 there:=fun b u q _=>⟨u,k b u q⟩
 tups:=fun b xs q=>by rw [ay (bg q hn)];exact q
 frzs:=fun b u xs q=>by rw [ay (bg q hn)];exact q
 tbls:=fun b ps q=>⟨#[],by rw [ay (bg q hn),q];simp⟩
theorem Un.write (f:Ox (H x))(he:e=x\/H e=some (.own x))(k:∀b u,b≠e->h.get? b=some u->h'.get? b=some u)(g:∃u,h'.get? e=some u):Un fs ex H (.Y x o) h h':=by
 have hx:∀b,H b=none->b≠x:=fun b n z=>by subst z;rw [n] at f;exact f
 have hb:∀b,H b=none->b≠e:=fun b n z=>by
  subst z
  rcases he with r | r
  ·exact hx b n r
  ·rw [n] at r;cases r
 have hm:∀b u,H b=some u->¬ Ox (.aX u)->b≠x:=fun b u q nm z=>by subst z;rw [q] at f;exact nm f
 refine⟨fun b u q n _ _=>k b u (hb b n) q,fun b u q n _ _=>⟨u.slots,k b u (hb b n) q⟩,fun b u q n _=>by rw [ay (hx b n)];exact n,fun b u q _=>?_,
  fun b xs q=>by rw [ay (hm b _ q fun z=>z)];exact q,fun b u xs q=>by rw [ay (hm b _ q fun z=>z)];exact q,fun b ps q=>⟨#[],by rw [ay (hm b _ q fun z=>z),q];simp⟩⟩
 by_cases d:b=e
 ·subst d;exact g
 ·exact⟨u,k b u d q⟩
end
def NQ (h:Heap)(H:Hp):List Addr:=(List.range h.objs.size).filter fun a=>(H a).isSome
def xH (h:Heap)(H:Hp):Heap:=PySem.W.hideAll h (NQ h H)
theorem Ff (h:Heap)(H:Hp):(xH h H).objs.size=h.objs.size:=PySem.W.hideAll_size _ _
theorem Hg {h:Heap}{H:Hp}{b:Addr}{o:Obj}(e:h.get? b=some o)(n:H b=none):(xH h H).get? b=some o:=
 PySem.W.hideAll_get _ e fun hm=>by
  have q:(H b).isSome=true:=(zaF.mp hm).2
  rw [n] at q;simp at q
theorem Ke {h:Heap}{H:Hp}{b:Addr}{o:Obj}(e:(xH h H).get? b=some o):h.get? b=some o/\H b=none:=by
 have j:h.get? b=some o:=PySem.W.of_hideAll (NQ h H) e
 refine⟨j,?_⟩
 cases q:H b with
 |none=>rfl
 |some x =>
  have hm:b∈NQ h H:=List.mem_filter.mpr ⟨List.mem_range.mpr (.aU j),by simp [q]⟩
  have z:(xH h H).get? b=none:=PySem.W.hideAll_none (NQ h H) hm
  rw [z] at e;cases e
structure Mod (K:.j)(mg:.G)(base:Heap):Prop where
 kin:K.In base
 glob:base.Ns mainGlobals mg
 blt:∃mb,base.Ns builtinsNs mb/\∀x:Str,x≠"__name__"->mb x=bootBuiltins x
 nolimit:base.NoLimit
structure Cx where
 prog:Program
 w:World
 K:PySem.W.Frag
 mg:Str->Option Value
 base:Heap
 A:Around
 N:List Str
 Y8:Shared
 Y9:Hp
 env:Env
 outer:List Env
 stack:List Env
 ex:List Addr
 fn:Str->Bool
 calm:Bool
 pn:List (Addr×Obj)
 xe:Value->Shared->Prop
def wm (l:.e6):List Addr:=l.filterMap (·.frame)
abbrev Cx.fs (X:Cx):List Addr:=wm X.outer
noncomputable def N3 (sc:Scope)(x:Str):Prop:=sc.names.lookup x=some .local\/sc.names.lookup x=some .cell\/sc.names.lookup x=some .free
def Loc (sc:Scope)(x:Str):Prop:=sc.names.lookup x=some .local\/sc.names.lookup x=some .cell
noncomputable def Look (env:Env)(h:Heap)(m:.G)(x:Str)(u:Value):Prop:=
 (env.kindOf x=some .local/\m x=some u)\/((env.kindOf x=some .cell\/env.kindOf x=some .free)/\∃c,env.cells.lookup x=some c/\h.IsCell c (.aX u))
structure Cx.Ok (X:Cx):Prop where
 mod:Mod X.K X.mg X.base
 kind:X.env.scope.kind=.function
 glob:X.env.globals=mainGlobals
 blt:X.env.builtins=builtinsNs
 above:X.Y8.heap.objs.size≤X.env.locals
 inj:∀x y c,X.env.cells.lookup x=some c->X.env.cells.lookup y=some c->x=y
 has:∀x,(X.env.kindOf x=some .cell\/X.env.kindOf x=some .free)->∃c,X.env.cells.lookup x=some c
 cab:∀x c,X.fn x=true->X.env.cells.lookup x=some c->X.Y8.heap.objs.size≤c
 hd:X.calm=true->X.A.handled=none
 frames:X.A.frames=some X.stack
 stk:X.stack=X.outer\/(X.stack=X.env::X.outer/\X.env.frame=some X.env.locals)
 exf:∀b∈X.ex,b≠X.env.locals/\∀x c,X.env.cells.lookup x=some c->c≠b
 bs:∀b o,X.base.get? b=some o->X.Y8.heap.get? b=some o/\X.Y9 b=none
 bsz:X.base.objs.size≤X.Y8.heap.objs.size
 noex:∀b o,X.base.get? b=some o->b∉X.ex
 exfs:∀b∈X.ex,b∉X.fs
 funs:X.Y8.heap.FunFrames X.base X.outer
 frf:∀b∈X.fs,X.Y9 b=none
structure Inv (X:Cx)(pins:.s)(σ:List (Option V))(H:Hp)(s:Shared):Prop where
 ok:X.Ok
 os:s.os=X.Y8.os
 bare:AllBare s.gens
 base:Un X.fs X.ex X.Y9 H X.Y8.heap s.heap
 loc:∃m,s.heap.Ns X.env.locals m/\∀(i:Nat) (x:Str) (v:V),X.N[i]? = some x->σ[i]? = some .cY->N3 X.env.scope x->∃u,RelV v u/\Look X.env s.heap m x u
 cell:∀x c,X.env.cells.lookup x=some c->∃v,s.heap.IsCell c v
 free:H X.env.locals=none
 freeC:∀x c,X.env.cells.lookup x=some c->H c=none
 pin:∀p∈X.pn++pins,s.heap.get? p.1=some p.2/\H p.1=none/\p.1≠X.env.locals/\p.1∉X.fs/\∀v,p.2.data≠.cell v
 hok:lF X.prog X.w H s.heap
 len:σ.length=X.N.length
section
variable {X:Cx}{pins:.s}{σ:List (Option V)}{H H':Hp}{s:Shared}{h':Heap}
theorem Cx.Ok.nofr (ok:X.Ok){b:Addr}{o:Obj}(e:X.base.get? b=some o):b∉X.fs:=fun hb=>by
 have:=(ok.funs.mem hb).1
 rw [e] at this;cases this
theorem Inv.bs (I:.q):∀b o,X.base.get? b=some o->s.heap.get? b=some o/\H b=none:=fun b o e =>
 ⟨I.base.keep b o (I.ok.bs b o e).1 (I.ok.bs b o e).2 (I.ok.nofr e) (I.ok.noex b o e),I.base.free b o (I.ok.bs b o e).1 (I.ok.bs b o e).2 (I.ok.noex b o e)⟩
theorem Inv.bk (I:.q):∀b o,X.base.get? b=some o->s.heap.get? b=some o:=fun b o e=>(I.bs b o e).1
theorem Inv.mod (I:.q):Mod X.K X.mg X.base:=I.ok.mod
theorem Inv.kIn (I:.q):X.K.In s.heap:=I.ok.mod.kin.keeps I.bk
theorem Inv.lt (I:.q):X.env.locals<s.heap.objs.size:=let ⟨_,hn,_⟩:=I.loc;hn.lt
theorem Inv.sz (I:.q):X.Y8.heap.objs.size≤s.heap.objs.size:=zaz I.ok.above (zbF I.lt)
theorem Inv.nofs (I:.q){a:Addr}(h:s.heap.objs.size≤a):a∉X.fs:=fun hb=>by
 obtain⟨_,o,ho,_⟩:=I.ok.funs.mem hb
 exact absurd (zau (.aU ho) (zaz I.sz h)) (za4 _)
theorem Inv.cne (I:.q):∀x c,X.env.cells.lookup x=some c->c≠X.env.locals:=fun x c e z=>by
 obtain⟨v,o,ho,hd⟩:=I.cell x c e
 obtain⟨m,⟨o',es,ep,f,d,_⟩,_⟩:=I.loc
 rw [z,f] at ho;cases ho;rw [d] at hd;cases hd
theorem Inv.funs (I:.q):s.heap.FunFrames X.base X.outer:=by
 have all:∀(l:.e6),(∀b∈wm l,b∈X.fs)->X.Y8.heap.FunFrames X.base l->s.heap.FunFrames X.base l:=by
  intro l
  induction l with
  |nil=>intro _ _;trivial
  |cons env r A =>
   intro hs hl
   obtain⟨hk,⟨L,o,hf,hn,ho,hd⟩,hr⟩:=hl
   have g:L∈X.fs:=hs L (by unfold wm;rw [List.filterMap_cons,hf];exact List.mem_cons_self)
   obtain⟨sl,e⟩:=I.base.slot L o ho (I.ok.frf L g) g fun z=>I.ok.exfs L z g
   exact⟨hk,⟨L,_,hf,hn,e,hd⟩,A (fun b hb=>hs b (by unfold wm;rw [List.filterMap_cons,hf];exact List.mem_cons_of_mem _ hb)) hr⟩
 exact all X.outer (fun _ hb=>hb) I.ok.funs
theorem Inv.stack (I:.q):s.heap.FunFrames X.base X.stack:=by
 rcases I.ok.stk with e | ⟨e,hf⟩
 ·rw [e];exact I.funs
 ·rw [e]
  obtain⟨m,hn,_⟩:=I.loc
  refine .cons (by rw [I.ok.kind];decide) hf hn ?_ I.funs
  exact Heap.get?_none_of_le (zaz I.ok.bsz I.ok.above)
theorem Inv.stkSub (I:.q):∀b∈wm X.stack,b∈X.env.locals::X.fs:=fun b hb=>by
 rcases I.ok.stk with e | ⟨e,hf⟩
 ·rw [e] at hb;exact zad _ hb
 ·rw [e] at hb
  unfold wm at hb
  rw [List.filterMap_cons,hf] at hb
  exact hb
theorem Inv.stkFree (I:.q):∀b∈wm X.stack,H b=none:=fun b hb=>by
 rcases zao.mp (I.stkSub b hb) with e | hb
 ·rw [e];exact I.free
 ·obtain⟨_,o,ho,_⟩:=I.ok.funs.mem hb
  exact I.base.free b o ho (I.ok.frf b hb) fun z=>I.ok.exfs b z hb
theorem Inv.step {g':Array GenState}{t':Nat}{d':Drawn}{ch:.V}(I:.q)
  (a:∀b∈ch,.gI/\b≠X.env.locals/\(∀x c,X.env.cells.lookup x=some c->c≠b)/\∀p∈X.pn++pins,p.1≠b)
  (keep:∀b o,b≠X.env.locals->b∉X.fs->b∉ch->s.heap.get? b=some o->H b=none->h'.get? b=some o)
  (slot:∀b o,b≠X.env.locals->b∈X.fs->b∉ch->s.heap.get? b=some o->H b=none->∃sl,h'.get? b=some { o with slots:=sl }) (free:∀b o,b∉ch->s.heap.get? b=some o->H b=none->H' b=none)
  (there:∀b o,b∉ch->s.heap.get? b=some o->∃o',h'.get? b=some o')
  (tups:∀b xs,H b=some .dZ->H' b=some .dZ) (frzs:∀b o u,H b=some (.frz o u)->H' b=some (.frz o u)) (tbls:∀b ps,H b=some (.tbl ps)->∃more,H' b=some (.tbl (ps++more)))
  (ns:∀m,s.heap.Ns X.env.locals m->h'.Ns X.env.locals m) (hok:lF X.prog X.w H' h') (L:AllBare g'):
  Inv X pins σ H' { s with heap:=h',gens:=g',drawn:=d',toks:=t' }:=by
 have j:∀b o,X.Y8.heap.get? b=some o->b≠X.env.locals:=fun b o e=>zas .iV
 have h:∀b o,X.Y8.heap.get? b=some o->b∉X.ex->b∉ch:=fun b o e hx hb=>by
  rcases (a b hb).1 with z | z
  ·exact hx z
  ·exact absurd (zau .aJ z) (za4 _)
 have cellK:∀x c,X.env.cells.lookup x=some c->∀v,s.heap.IsCell c v->h'.IsCell c v:=fun x c e v G=>by
  obtain⟨o,ho,hd⟩:=G
  have g:c∉ch:=fun z=>(a c z).2.2.1 x c e rfl
  by_cases U:c∈X.fs
  ·obtain⟨sl,q⟩:=slot c o (I.cne x c e) U g ho (I.freeC x c e)
   exact⟨_,q,hd⟩
  ·exact⟨o,keep c o (I.cne x c e) U g ho (I.freeC x c e),hd⟩
 refine⟨I.ok,I.os,L,⟨fun b o e n hb hx=>?_,fun b o e n hb hx=>?_,fun b o e n hx=>?_,fun b o e hx=>?_,fun b xs e=>tups b xs (I.base.tups b xs e),fun b o xs e=>frzs b o xs (I.base.frzs b o xs e),fun b ps e=>?_⟩,?_,fun x c e=>?_,?_,fun x c e=>?_,fun p hp=>?_,hok,I.len⟩
 ·exact keep b o (j b o e) hb (h b o e hx) (I.base.keep b o e n hb hx) (I.base.free b o e n hx)
 ·obtain⟨sl,e1⟩:=I.base.slot b o e n hb hx
  obtain⟨t,e2⟩:=slot b _ (j b o e) hb (h b o e hx) e1 (I.base.free b o e n hx)
  exact⟨t,e2⟩
 ·obtain⟨o',e1⟩:=I.base.there b o e hx
  exact free b o' (h b o e hx) e1 (I.base.free b o e n hx)
 ·obtain⟨o',e1⟩:=I.base.there b o e hx
  exact there b o' (h b o e hx) e1
 ·obtain⟨W,e1⟩:=I.base.tbls b ps e
  obtain⟨f,e2⟩:=tbls b _ e1
  exact⟨W++f,by rw [e2,Array.append_assoc]⟩
 ·obtain⟨m,hn,hl⟩:=I.loc
  refine⟨m,ns m hn,fun i x v e1 e2 e3=>?_⟩
  obtain⟨u,r,l⟩:=hl i x v e1 e2 e3
  refine⟨u,r,?_⟩
  rcases l with l | ⟨k,c,e,z⟩
  ·exact .inl l
  ·exact .a1 ⟨k,c,e,cellK x c e _ z⟩
 ·obtain⟨v,z⟩:=I.cell x c e
  exact⟨v,cellK x c e v z⟩
 ·obtain⟨m,⟨o,_,_,ho,_⟩,_⟩:=I.loc
  exact free _ o (fun z=>(a _ z).2.1 rfl) ho I.free
 ·obtain⟨v,o,ho,hd⟩:=I.cell x c e
  exact free c o (fun z=>(a c z).2.2.1 x c e rfl) ho (I.freeC x c e)
 ·obtain⟨e,n,ne,N,d⟩:=I.pin p hp
  have g:p.1∉ch:=fun z=>(a p.1 z).2.2.2 p hp rfl
  exact⟨keep p.1 p.2 ne N g e n,free p.1 p.2 g e n,ne,N,d⟩
theorem Inv.un {t':Nat}(I:.q)(u:Un X.fs [] H H' s.heap h')(hok:lF X.prog X.w H' h'):Inv X pins σ H' { s with heap:=h',toks:=t' }:=by
 obtain⟨m,⟨o,es,ep,ho,r⟩,_⟩:=id I.loc
 obtain⟨sl,g⟩:=u.any ho I.free .f
 exact I.step (g':=s.gens) (d':=s.drawn) (ch:=[]) (fun _ z=>nomatch z) (fun b o _ hb _ e n=>u.keep b o e n hb .f) (fun b o _ hb _ e n=>u.slot b o e n hb .f) (fun b o _ e n=>u.free b o e n .f) (fun b o _ e=>u.there b o e .f) u.tups u.frzs u.tbls (fun E hm=>by
  obtain⟨o',i,j,f,Y⟩:=hm
  rw [ho] at f;cases f
  exact⟨_,i,j,g,Y⟩) hok I.bare
theorem Inv.call {g':Array GenState}{t':Nat}{d':Drawn}{ch:.V}(I:.q)(u:Un (wm X.stack) ch H H' s.heap h')(hok:lF X.prog X.w H' h')(L:AllBare g')
  (a:∀b∈ch,.gI/\b≠X.env.locals/\(∀x c,X.env.cells.lookup x=some c->c≠b)/\∀p∈X.pn++pins,p.1≠b):
  Inv X pins σ H' { s with heap:=h',gens:=g',drawn:=d',toks:=t' }:=by
 obtain⟨m,⟨o,es,ep,ho,r⟩,_⟩:=id I.loc
 obtain⟨sl,g⟩:=u.any ho I.free fun z=>(a _ z).2.1 rfl
 exact I.step (ch:=ch) a (fun b o g hb U e n=>u.keep b o e n (fun z=>(zao.mp (I.stkSub b z)).elim g hb) U) (fun b o _ _ U e n=>u.any e n U) (fun b o U e n=>u.free b o e n U) (fun b o U e=>u.there b o e U) u.tups u.frzs u.tbls (fun E hm=>by
  obtain⟨o',i,j,f,Y⟩:=hm
  rw [ho] at f;cases f
  exact⟨_,i,j,g,Y⟩) hok L
theorem Inv.turned {t':Nat}{it:Addr}(I:.q)(k:∀b o,b≠it->s.heap.get? b=some o->h'.get? b=some o)(hn:H it=none)(g:it≠X.env.locals)
  (h1:it∈X.ex\/X.Y8.heap.objs.size≤it) (h2:∀x c,X.env.cells.lookup x=some c->c≠it) (M:∀p∈X.pn++pins,p.1≠it):Inv X pins σ H { s with heap:=h',toks:=t' }:=by
 have a:∀b u,H b=some u->b≠it:=fun b u e z=>by rw [z,hn] at e;cases e
 refine I.step (g':=s.gens) (d':=s.drawn) (ch:=[it]) (fun b hb=>?_) (fun b o _ _ U e _=>k b o (fun z=>U (by simp [z])) e) (fun b o _ _ U e _=>⟨o.slots,k b o (fun z=>U (by simp [z])) e⟩) (fun _ _ _ _ n=>n)
  (fun b o U e=>⟨o,k b o (fun z=>U (by simp [z])) e⟩) (fun _ _ e=>e) (fun _ _ _ e=>e) (fun b ps e=>⟨#[],by rw [e];simp⟩) (fun m hm=>?_) (fun b u e=>?_) I.bare
 ·have e:b=it:=by simpa using hb
  subst e
  exact⟨h1,g,h2,M⟩
 ·obtain⟨o,es,ep,ho,r⟩:=hm
  exact⟨o,es,ep,k _ o (.bf g) ho,r⟩
 ·refine (I.hok b u e).stay (fun c v U q=>k c v ?_ q) (fun _ q=>q) fun _ _ q=>q
  rcases U with z | z
  ·rw [z];exact a b u e
  ·exact a c _ z
theorem Inv.tok (I:.q)(t:Nat):Inv X pins σ H { s with toks:=t }:=I.un (h':=s.heap) (t':=t) Un.refl I.hok
theorem Inv.kept {t':Nat}(I:.q)(k:∀b u,s.heap.get? b=some u->h'.get? b=some u):Inv X pins σ H { s with heap:=h',toks:=t' }:=I.un (Un.kept k) (I.hok.kept k)
theorem Inv.laid {a:Addr}{o:HO}{t':Nat}(I:.q)(k:∀b u,s.heap.get? b=some u->h'.get? b=some u)(hp:s.heap.objs.size≤a)(new:di X.prog X.w (.Y a o) h' a o):
  Inv X pins σ (.Y a o) { s with heap:=h',toks:=t' }:=I.un (Un.laid k hp (I.hok.fresh hp)) (I.hok.laid k hp new)
theorem Inv.write {x e:Addr}{o:HO}{t':Nat}(I:.q)(f:Ox (H x))(he:e=x\/H e=some (.own x))(k:∀b u,b≠e->s.heap.get? b=some u->h'.get? b=some u)(g:∃u,h'.get? e=some u)
  (new:di X.prog X.w (.Y x o) h' x o):Inv X pins σ (.Y x o) { s with heap:=h',toks:=t' }:=I.un (Un.write f he k g) (I.hok.write f he k g new)
theorem Inv.pins_of {a:.s}(I:.q)(h:∀p∈a,s.heap.get? p.1=some p.2/\H p.1=none/\p.1≠X.env.locals/\p.1∉X.fs/\∀v,p.2.data≠.cell v):Inv X a σ H s:=
 ⟨I.ok,I.os,I.bare,I.base,I.loc,I.cell,I.free,I.freeC,fun p hp=>(zaA.mp hp).elim (fun z=>I.pin p (zbd _ z)) (h p),I.hok,I.len⟩
theorem Ax {N:.U}(J:N.Nodup){i j:Nat}{x:Str}(a:N[i]? = some x)(b:N[j]? = some x):i=j:=by
 obtain⟨h1,e1⟩:=zar.mp a
 obtain⟨h2,e2⟩:=zar.mp b
 exact (List.getElem_inj J).mp (e1.trans e2.symm)
theorem qz {M:Model}{A:Around}{E:.n}{i:Nat}{x:Str}{v:V}{u:Value}{Q:.dR}(I:.q)(J:.eM)(hi:X.N[i]? = some x)(hx:.ej)(r:RelV v u)
  (h:∀s',Inv X pins (σ.set i .cY) H s'->(∃a,Heap.SameBut a s.heap s'.heap/\(a=X.env.locals\/X.env.cells.lookup x=some a))->Q () s') (hf:X.fn x=true\/X.env.scope.names.lookup x=some .local:=by first | exact .inl rfl | exact .inr rfl | assumption):wpAny M A (storeName X.env x u) Q E s:=by
 obtain⟨m,hn,hl⟩:=id I.loc
 have O:(X.env.scope.kind == .class||(X.env.scope.kind == .module&&X.env.locals != X.env.globals))=false:=by rw [I.ok.kind];rfl
 have L:i<σ.length:=by rw [I.len];exact (zar.mp hi).1
 have cne:=I.cne
 have tracked:∀{a:Addr} {h':Heap},(∃o,s.heap.get? a=some o/\H a=none)->Heap.SameBut a s.heap h'->lF X.prog X.w H h':=fun {a h'} ha hs b ob e=>by
  obtain⟨_,_,G⟩:=ha
  refine (I.hok b ob e).stay (fun c B U q=>(hs.2 c ?_).trans q) (fun _ q=>q) fun _ _ q=>q
  rintro rfl
  rcases U with rfl | U
  ·rw [G] at e;cases e
  ·rw [G] at U;cases U
 rcases hx with hk | hk
 ·refine wpAny_storeName_local hk hn (fun h' l hs=>?_) O
  obtain⟨oL,_,_,Z,_⟩:=id hn
  refine h _ ⟨I.ok,I.os,I.bare,⟨fun b o e n hb hx=>?_,fun b o e n hb hx=>?_,I.base.free,fun b o e hx=>?_,I.base.tups,I.base.frzs,I.base.tbls⟩,⟨_,l,fun j y W e1 e2 e3=>?_⟩,fun y c e=>?_,I.free,I.freeC,fun p hp=>?_,tracked ⟨oL,Z,I.free⟩ hs,by simpa using I.len⟩ ⟨_,hs,.inl rfl⟩
  ·exact (hs.2 b (zas .iV)).trans (I.base.keep b o e n hb hx)
  ·obtain⟨sl,e1⟩:=I.base.slot b o e n hb hx
   exact⟨sl,(hs.2 b (zas .iV)).trans e1⟩
  ·obtain⟨o',e1⟩:=I.base.there b o e hx
   exact⟨o',(hs.2 b (zas .iV)).trans e1⟩
  ·by_cases P:j=i
   ·subst P
    rw [hi] at e1;cases e1
    rw [zak L] at e2
    cases e2
    exact⟨u,r,.inl ⟨hk,.f⟩⟩
   ·rw [zal (.bf P)] at e2
    obtain⟨g,Y,q⟩:=hl j y W e1 e2 e3
    refine⟨g,Y,?_⟩
    rcases q with ⟨k,e⟩ | ⟨k,c,e,z⟩
    ·refine .inl ⟨k,?_⟩
     have:y≠x:=fun e=>P (Ax J e1 (e ▸ hi))
     simp [this,e]
    ·exact .a1 ⟨k,c,e,z.sameBut hs (cne y c e)⟩
  ·obtain⟨B,z⟩:=I.cell y c e
   exact⟨B,z.sameBut hs (cne y c e)⟩
  ·obtain⟨e,n,ne,N,d⟩:=I.pin p hp
   exact⟨(hs.2 p.1 ne).trans e,n,ne,N,d⟩
 ·have t:X.fn x=true:=by
   rcases hf with z | z
   ·exact z
   ·rw [z] at hk;cases hk
  obtain⟨c,U⟩:=I.ok.has x (.inl hk)
  obtain⟨B,z⟩:=I.cell x c U
  refine wpAny_storeName_cell I.ok.kind hk U z (fun h' F hs=>?_)
  obtain⟨oc,R,T⟩:=id z
  refine h { s with heap:=h' } ⟨I.ok,I.os,I.bare,⟨fun b o e n hb hx=>?_,fun b o e n hb hx=>?_,I.base.free,fun b o e hx=>?_,I.base.tups,I.base.frzs,I.base.tbls⟩,⟨m,hn.sameBut hs (.bf (cne x c U)),fun j y W e1 e2 e3=>?_⟩,fun y C e=>?_,I.free,I.freeC,fun p hp=>?_,tracked ⟨oc,R,I.freeC x c U⟩ hs,by simpa using I.len⟩ ⟨c,hs,.inr U⟩
  ·exact (hs.2 b .g3).trans (I.base.keep b o e n hb hx)
  ·obtain⟨sl,e1⟩:=I.base.slot b o e n hb hx
   exact⟨sl,(hs.2 b .g3).trans e1⟩
  ·obtain⟨o',e1⟩:=I.base.there b o e hx
   exact⟨o',(hs.2 b .g3).trans e1⟩
  ·by_cases P:j=i
   ·subst P
    rw [hi] at e1;cases e1
    rw [zak L] at e2
    cases e2
    exact⟨u,r,.inr ⟨.inl hk,c,U,F⟩⟩
   ·rw [zal (.bf P)] at e2
    obtain⟨g,Y,q⟩:=hl j y W e1 e2 e3
    refine⟨g,Y,?_⟩
    rcases q with q | ⟨k,C,e,S⟩
    ·exact .inl q
    ·refine .inr ⟨k,C,e,S.sameBut hs ?_⟩
     rintro rfl
     exact P (Ax J e1 (I.ok.inj _ _ _ e U ▸ hi))
  ·by_cases w:C=c
   ·subst w;exact⟨_,F⟩
   ·obtain⟨K,D⟩:=I.cell y C e
    exact⟨K,D.sameBut hs w⟩
  ·obtain⟨e,n,ne,N,d⟩:=I.pin p hp
   refine⟨(hs.2 p.1 ?_).trans e,n,ne,N,d⟩
   intro q
   rw [q,R] at e
   have f:oc=p.2:=zaN e
   exact d B (by rw [<- f];exact T)
theorem pC {M:Model}{A:Around}{E:.n}{i:Nat}{x:Str}{v:V}{u:Value}{Q:.dR}(I:.q)(J:.eM)(hi:X.N[i]? = some x)(hx:.ej)(r:RelV v u)
  (h:∀s',Inv X pins (σ.set i .cY) H s'->Q () s') (hf:X.fn x=true\/X.env.scope.names.lookup x=some .local:=by first | exact .inl rfl | exact .inr rfl | assumption):wpAny M A (storeName X.env x u) Q E s:=
 qz I J hi hx r (fun s' j _=>h s' j) hf
theorem Inv.call' {s':Shared}{ch:.V}(I:.q)(ho:s'.os=s.os)(u:Un (wm X.stack) ch H H' s.heap s'.heap)(hok:lF X.prog X.w H' s'.heap)(L:AllBare s'.gens)
  (a:∀b∈ch,.gI/\b≠X.env.locals/\(∀x c,X.env.cells.lookup x=some c->c≠b)/\∀p∈X.pn++pins,p.1≠b):Inv X pins σ H' s':=by
 obtain⟨h',g',d',t',o'⟩:=s'
 have e:o'=s.os:=ho
 subst e
 exact I.call (g':=g') (t':=t') (d':=d') u hok L a
end
abbrev XK:=Value->Option Addr->Hp->Prop
abbrev St:=List (Option V)
abbrev VK:=V->Hp->Prop
abbrev TE:=St->Hp->VK->Prop
abbrev TT:=St->Hp->(Bool->Hp->Prop)->Prop
abbrev TA:=St->Hp->(List V->Hp->Prop)->Prop
structure Ends where
 nx:St->Hp->Prop
 rt:VK
 bk:St->Hp->Prop:=fun _ _=>False
 ct:St->Hp->Prop:=fun _ _=>False
abbrev TS:=Ends->St->Hp->Prop
noncomputable def EP (X:Cx)(pins:.s)(σ:St)(Q:VK)(u:Value)(s':Shared):Prop:=∃v H',Inv X pins σ H' s'/\RelV v u/\Q v H'
noncomputable def TP (X:Cx)(pins:.s)(σ:St)(Q:Bool->Hp->Prop)(b:Bool)(s':Shared):Prop:=∃H',Inv X pins σ H' s'/\Q b H'
noncomputable def AP (X:Cx)(pins:.s)(σ:St)(Q:List V->Hp->Prop)(us:.S)(s':Shared):Prop:=∃vs H',Inv X pins σ H' s'/\Vals vs us/\Q vs H'
noncomputable def SP (X:Cx)(pins:.s)(D:Ends)(f:Flow)(s':Shared):Prop:=
 match f with
 | .next=>∃σ' H',Inv X pins σ' H' s'/\D.nx σ' H'
 | .brk=>∃σ' H',Inv X pins σ' H' s'/\D.bk σ' H'
 | .cont=>∃σ' H',Inv X pins σ' H' s'/\D.ct σ' H'
 | .ret u=>∃v σ' H',Inv X pins σ' H' s'/\RelV v u/\D.rt v H'
noncomputable def PE (X:Cx)(e:Expr)(t:TE):Prop:=
 ∀(pins:.s) (s:Shared) (σ:St) (H:Hp) (Q:VK),Inv X pins σ H s->t σ H Q->wpAny .o X.A (.V e) .bR X.xe s
noncomputable def PT (X:Cx)(e:Expr)(t:TT):Prop:=
 ∀(pins:.s) (s:Shared) (σ:St) (H:Hp) (Q:Bool->Hp->Prop),Inv X pins σ H s->t σ H Q->wpAny .o X.A (isTrue e X.env (.V e)) (TP X pins σ Q) X.xe s
noncomputable def PW (X:Cx)(e:Expr)(t:TT):Prop:=
 ∀(whole:Sem Value) (pins:.s) (s:Shared) (σ:St) (H:Hp) (Q:Bool->Hp->Prop),Inv X pins σ H s->t σ H Q->wpAny .o X.A (isTrue e X.env whole) (TP X pins σ Q) X.xe s
theorem PW.pt {X:Cx}{e:Expr}{t:TT}(h:PW X e t):PT X e t:=h _
noncomputable def PA (X:Cx)(es:.av)(t:TA):Prop:=
 ∀(pos:Pos) (pins:.s) (s:Shared) (σ:St) (H:Hp) (Q:List V->Hp->Prop),Inv X pins σ H s->t σ H Q->wpAny .o X.A (spliced (backTo pos .bm)) (AP X pins σ Q) X.xe s
noncomputable def PS (X:Cx)(st:Stmt)(t:TS):Prop:=
 ∀(pins:.s) (s:Shared) (σ:St) (H:Hp) (D:Ends),Inv X pins σ H s->t D σ H->wpAny .o X.A (exec st X.env) (SP X pins D) X.xe s
noncomputable def lj (X:Cx)(st:.a4)(t:TS):Prop:=
 ∀(pins:.s) (s:Shared) (σ:St) (H:Hp) (D:Ends),Inv X pins σ H s->t D σ H->wpAny .o X.A (execs st X.env) (SP X pins D) X.xe s
theorem cF {α:Type}{t:Sem α}{Q k:α->Shared->Prop}{M:Model}{A:Around}{E:.n}{s:Shared}(h:wpAny M A t Q E s)(d:∀a s,Q a s->k a s):wpAny M A t k E s:=wpAny_mono h d fun _ _ x=>x
section
variable {X:Cx}
def uA (i:Nat):TE:=fun σ H Q=>∃v,σ[i]? = some .cY/\Q v H
def tC (v:V):TE:=fun _ H Q=>Q v H
theorem M8 {i:Nat}{x:Str}{pos:Pos}(J:X.N[i]? = some x)(Z:N3 X.env.scope x)(hd:.M=false:=by decide)(p:(x == ("__classdict__" : Str))=false:=by decide):PE X .fB (uA i):=by
 intro pins s σ H Q I h
 obtain⟨v,e,h⟩:=h
 obtain⟨m,hn,hl⟩:=I.loc
 obtain⟨u,r,l⟩:=hl i x v J e Z
 have fin:EP X pins σ Q u s:=⟨v,H,I,r,h⟩
 rcases l with ⟨hk,hm⟩ | ⟨hk,c,U,f⟩
 ·exact wpAny_Name (wpAny_loadName_local I.ok.kind hk hn hm fin) hd
 ·rcases hk with hk | hk
  ·exact wpAny_Name (wpAny_loadName_cell I.ok.kind hk U f fin) hd
  ·exact wpAny_Name (wpAny_loadName_free I.ok.kind hk U f fin p) hd
theorem MZ {i j pos}:PE X (.bj .eQ) (tC .eQ):=fun _ _ _ H _ I h=>wpAny_Constant_int ⟨.int i,H,.hG,.ag,h⟩
theorem PY {b j pos}:PE X (.bj (.bool b)) (tC .f0):=fun _ _ _ H _ I h=>Constant_bool ⟨.bl b,H,I,rfl,h⟩
theorem M0 {j pos}:PE X (.Constant .none j pos) (tC .non):=fun _ _ _ H _ I h=>Constant_none ⟨.non,H,I,rfl,h⟩
theorem M6 {x j pos}:PE X (.bj .fM) (tC .fM):=fun _ _ _ H _ I h=>Calls.Constant_str ⟨.str x,H,.hG,.ag,h⟩
def Gl (X:Cx)(x:Str):Prop:=X.env.kindOf x=some .globalImplicit
theorem oV {E:.n}{pins:.s}{s:Shared}{σ:St}{H:Hp}{x:Str}{u:Value}{pos:Pos}{Q:.n}(I:.q)(L:Gl X x)(hm:X.mg x=some u)(h:Q u s)
  (hd:.M=false:=by decide):wpAny .o X.A (.V .fB) Q E s:=
 Calls.Name_function_global I.ok.kind L (Calls.loadGlobal_global (by rw [I.ok.glob];exact I.mod.glob.keeps I.bk) hm h) hd
theorem qb {E:.n}{pins:.s}{s:Shared}{σ:St}{H:Hp}{x:Str}{u:Value}{pos:Pos}{Q:.n}(I:.q)(L:Gl X x)(hm:X.mg x=none)(Z:bootBuiltins x=some u)(h:Q u s)
  (hn:x≠"__name__" := by decide) (hd:.M=false:=by decide):wpAny .o X.A (.V .fB) Q E s:=by
 obtain⟨mb,h1,h2⟩:=I.mod.blt
 exact Calls.Name_function_global I.ok.kind L (Calls.loadGlobal_builtin (by rw [I.ok.glob];exact I.mod.glob.keeps I.bk) hm (by rw [I.ok.blt];exact h1.keeps I.bk) ((h2 x hn).trans Z) h) hd
theorem rQ {x:Str}{v:V}{u:Value}{pos:Pos}(L:Gl X x)(hm:X.mg x=some u)(r:RelV v u)(hd:.M=false:=by decide):PE X .fB (tC v):=
 fun _ _ _ H _ I h=>oV I L hm ⟨v,H,I,r,h⟩ hd
theorem Kr {x:Str}{v:V}{u:Value}{pos:Pos}(L:Gl X x)(hm:X.mg x=none)(Z:bootBuiltins x=some u)(r:RelV v u)(hn:x≠"__name__" := by decide)(hd:.M=false:=by decide):PE X .fB (tC v):=
 fun _ _ _ H _ I h=>qb I L hm Z ⟨v,H,I,r,h⟩ hn hd
variable {a b:Expr}{ta tb:TE}{pos:Pos}
noncomputable def PC (X:Cx)(i:CmpOp)(a b:Expr)(t:TE):Prop:=
 ∀(pins:.s) (s:Shared) (σ:St) (H:Hp) (Q:VK),Inv X pins σ H s->t σ H Q ->
  wpAny .o X.A (.V a) (fun v g=>wpAny .o X.A (.V b) (fun u d=>wpAny .o X.A (compareOp i v u) .bR X.xe d) X.xe g) X.xe s
def tB (t:TE):TT:=fun σ H Q=>t σ H fun x H1=>∃c,x=.bl c/\Q c H1
theorem Nh {i:CmpOp}{t:TE}(h:PC X i a b t)(h1:behindInMarks i b=false:=by first | exact m _ .e .e | rfl):PT X .gX (tB t):=by
 intro pins s σ H Q I B
 refine wpAny_isTrue_Compare1 (cF (h pins s σ H _ I B) fun v s1 h1=>cF h1 fun u s2 h2=>cF h2 fun c C .cM=>?_) h1
 obtain⟨d,rfl,q⟩:=q1
 cases r1
 exact .bo ⟨H1,O,q⟩
variable {tA tB':TT}{rest:.av}
def SX (t u:TT):TT:=fun σ H Q=>t σ H fun c H1=>if c=true then u σ H1 Q else Q false H1
def Uu (t u:TT):TT:=fun σ H Q=>t σ H fun c H1=>if c=true then Q true H1 else u σ H1 Q
def S8 (t:TT):TT:=fun σ H Q=>t σ H fun c H1=>Q (!c) H1
theorem KI (ha:PT X a tA):PW X (.BoolOp .And [a] pos) tA:=by
 intro d pins s σ H Q I h
 refine isTrue_and (cF (ha pins s σ H Q I h) fun c s1 e=>?_)
 cases c with
 |true=>exact isTrue_and_nil e
 |false=>exact e
theorem Nk (ha:PT X a tA):PW X (.BoolOp .Or [a] pos) tA:=by
 intro d pins s σ H Q I h
 refine isTrue_or (cF (ha pins s σ H Q I h) fun c s1 e=>?_)
 cases c with
 |false=>exact isTrue_or_nil e
 |true=>exact e
theorem Nj (ha:PT X a tA)(hb:PW X .fO tB'):PW X .e3 (SX tA tB'):=by
 intro d pins s σ H Q I h
 refine isTrue_and (cF .a7 fun c s1 ⟨H1,O,q1⟩=>?_)
 cases c with
 |true=>exact hb d pins s1 σ H1 Q O q1
 |false=>exact⟨H1,O,q1⟩
theorem P7 (ha:PT X a tA)(hb:PW X .f2 tB'):PW X .fe (Uu tA tB'):=by
 intro d pins s σ H Q I h
 refine isTrue_or (cF .a7 fun c s1 ⟨H1,O,q1⟩=>?_)
 cases c with
 |true=>exact⟨H1,O,q1⟩
 |false=>exact hb d pins s1 σ H1 Q O q1
theorem Ni (ha:PT X a tA):PT X .iC (S8 tA):=by
 intro pins s σ H Q I h
 exact isTrue_not (ha pins s σ H (fun c H1=>Q (!c) H1) I h)
noncomputable def Qp (ta tb:TE):TE:=fun σ H Q=>ta σ H fun x H1=>∃c,x=.bl c/\if c=true then tb σ H1 Q else Q .Q H1
noncomputable def S9 (ta tb:TE):TE:=fun σ H Q=>ta σ H fun x H1=>∃c,x=.bl c/\if c=true then Q .bE H1 else tb σ H1 Q
def Qy (ta:TE):TE:=fun σ H Q=>ta σ H fun x H1=>∃c,x=.bl c/\Q (.bl (!c)) H1
theorem M4 {op}{t:TE}(h:PE X a t):PE X (.BoolOp op [a] pos) t:=fun pins s σ H Q I B=>BoolOp_one (h pins s σ H Q I B)
theorem MW (ha:.f5)(hb:PE X .fO tb):PE X .e3 (Qp ta tb):=by
 intro pins s σ H Q I h
 refine BoolOp_and (.l .a7)
 obtain⟨c,rfl,q1⟩:=q1
 cases r1
 refine .je
 cases c with
 |true=>exact hb pins s1 σ H1 Q O q1
 |false=>exact⟨.bl false,H1,O,rfl,q1⟩
theorem P2 (ha:.f5)(hb:PE X .f2 tb):PE X .fe (S9 ta tb):=by
 intro pins s σ H Q I h
 refine BoolOp_or (.l .a7)
 obtain⟨c,rfl,q1⟩:=q1
 cases r1
 refine .je
 cases c with
 |false=>exact hb pins s1 σ H1 Q O q1
 |true=>exact⟨.bl true,H1,O,rfl,q1⟩
theorem M3 (ha:.f5):PE X .iC (Qy ta):=by
 intro pins s σ H Q I h
 refine UnaryOp_ (.l .a7)
 obtain⟨c,rfl,q1⟩:=q1
 cases r1
 exact not_of (.bo ⟨.bl (!c),H1,O,rfl,q1⟩)
def Us (t:TT)(ta tb:TE):TE:=fun σ H Q=>t σ H fun c H1=>if c=true then ta σ H1 Q else tb σ H1 Q
theorem Ip {c:Expr}(U:PT X c tA)(ha:.f5)(hb:PE X b tb):PE X (.IfExp c a b pos) (Us tA ta tb):=by
 intro pins s σ H Q I h
 refine wpAny_IfExp (cF (U pins s σ H _ I h) fun d s1 ⟨H1,O,q1⟩=>?_)
 cases d with
 |true=>exact ha pins s1 σ H1 Q O q1
 |false=>exact hb pins s1 σ H1 Q O q1
end
noncomputable def gE (K:.j)(H:Hp)(a:Addr)(xs:List V):Prop:=
 Rd H a .cG \/
  ∃(o:Obj) (G:.cP) (n:Nat),K.lookup a=some o/\o.cls=.type "list"/\o.dict=none/\o.data=.seq G n/\G.size≤sizeLine/\Vals xs G.toList
noncomputable def mQ (K:.j)(H:Hp)(a:Addr)(xs:List V):Prop:=
 Rd H a .dZ \/
  ∃(o:Obj) (G:.cP) (n:Nat),K.lookup a=some o/\o.cls=.type "tuple"/\o.data=.seq G n/\G.size≤sizeLine/\Vals xs G.toList
noncomputable def RU:Value->Option V
 | .none=>some .non
 | .bool b=>some .f0
 | .int i _=>some .eQ
 | .str x _=>some .fM
 | .bytes b _=>some (.byt b)
 | .float b _=>some (.flt b)
 | .ref a=>some (.d a)
 | .type n=>some (.ty n)
 |_=>none
theorem RelV.abs {x:V}{u:Value}(r:RelV x u):RU u=some x:=by
 cases x with
 |non=>cases r;rfl
 |bl _=>cases r;rfl
 |int _=>obtain⟨t,rfl⟩:=r;rfl
 |str _=>obtain⟨t,rfl⟩:=r;rfl
 |byt _=>obtain⟨t,rfl⟩:=r;rfl
 |flt _=>obtain⟨t,rfl⟩:=r;rfl
 |ref _=>cases r;rfl
 |ty _=>cases r;rfl
theorem RelV.inj {x y:V}{u:Value}(r:RelV x u)(q:RelV y u):x=y:=zaN (r.abs.symm.trans q.abs)
theorem Vals.inj:∀{xs ys:List V} {us:.S},Vals xs us->Vals ys us->xs=ys
 |_,_,_,.nil,.nil=>rfl
 |_,_,_,.cons r t,.cons Y t'=>by rw [r.inj Y,Vals.inj t t']
section
variable {X:Cx}{pins:.s}{σ:St}{H:Hp}{s:Shared}{a:Addr}{xs ys:List V}
theorem gE.of {K:.j}(h:H a=some .cG):gE K H a xs:=.inl (.inl h)
theorem mQ.of {K:.j}(h:H a=some .dZ):mQ K H a xs:=.inl (.inl h)
theorem Inv.list (I:.q)(h:gE X.K H a xs):∃G:List Value,Vals xs G/\PlainL s.heap a G.toArray/\xs.length≤sizeLine:=by
 rcases h with h | ⟨o,G,n,hk,U,hd,hs,hz,r⟩
 ·obtain⟨z,G,n,r,e⟩:=h.ok I.hok
  exact⟨G,r,⟨_,n,e,rfl,rfl,rfl⟩,z⟩
 ·refine⟨G.toList,r,⟨o,n,I.kIn a o hk,U,hd,by simpa using hs⟩,?_⟩
  have e:=r.length
  simp only [Array.length_toList] at e
  omega
theorem Inv.tuple (I:.q)(h:mQ X.K H a xs):∃G:List Value,Vals xs G/\IsTup s.heap a G.toArray/\xs.length≤sizeLine:=by
 rcases h with h | ⟨o,G,n,hk,U,hs,hz,r⟩
 ·obtain⟨z,G,r,p⟩:=h.ok I.hok
  exact⟨G,r,p,z⟩
 ·refine⟨G.toList,r,⟨o,I.kIn a o hk,U,n,by simpa using hs⟩,?_⟩
  have e:=r.length
  simp only [Array.length_toList] at e
  omega
theorem Inv.list_inj (I:.q)(h:gE X.K H a xs)(h':gE X.K H a ys):xs=ys:=by
 obtain⟨G,r,⟨o,n,e,_,_,d⟩,_⟩:=I.list h
 obtain⟨its',Y,⟨o',b,j,_,_,d'⟩,_⟩:=I.list h'
 rw [e] at j;cases j
 rw [d] at d'
 injection d' with E _
 have:G=its':=by simpa using congrArg Array.toList E
 subst this
 exact r.inj Y
theorem Inv.tuple_inj (I:.q)(h:mQ X.K H a xs)(h':mQ X.K H a ys):xs=ys:=by
 obtain⟨G,r,⟨o,e,_,n,d⟩,_⟩:=I.tuple h
 obtain⟨its',Y,⟨o',j,_,b,d'⟩,_⟩:=I.tuple h'
 rw [e] at j;cases j
 rw [d] at d'
 injection d' with E _
 have:G=its':=by simpa using congrArg Array.toList E
 subst this
 exact r.inj Y
end
abbrev Cx.wish (X:Cx)(E:.n):Cx:={ X with xe:=E }
abbrev Cx.nox (X:Cx):Cx:=X.wish fun _ _=>False
theorem Cx.Ok.wish {X:Cx}(ok:X.Ok)(E:.n):(X.wish E).Ok:=
 ⟨ok.mod,ok.kind,ok.glob,ok.blt,ok.above,ok.inj,ok.has,ok.cab,ok.hd,ok.frames,ok.stk,ok.exf,ok.bs,ok.bsz,ok.noex,ok.exfs,ok.funs,ok.frf⟩
theorem Cx.Ok.unwish {X:Cx}{E:.n}(ok:(X.wish E).Ok):X.Ok:=
 ⟨ok.mod,ok.kind,ok.glob,ok.blt,ok.above,ok.inj,ok.has,ok.cab,ok.hd,ok.frames,ok.stk,ok.exf,ok.bs,ok.bsz,ok.noex,ok.exfs,ok.funs,ok.frf⟩
section
variable {X:Cx}{pins:.s}{σ:St}{H:Hp}{s:Shared}{E:.n}
theorem Inv.wish (I:.q)(E:.n):Inv (X.wish E) pins σ H s:=⟨I.ok.wish E,I.os,I.bare,I.base,I.loc,I.cell,I.free,I.freeC,I.pin,I.hok,I.len⟩
theorem Inv.unwish (I:Inv (X.wish E) pins σ H s):Inv X pins σ H s:=⟨I.ok.unwish,I.os,I.bare,I.base,I.loc,I.cell,I.free,I.freeC,I.pin,I.hok,I.len⟩
theorem SP.unwish {D:Ends}{f:Flow}{s':Shared}(h:SP (X.wish E) pins D f s'):SP X pins D f s':=by
 cases f with
 |next=>obtain⟨σ',H',I,q⟩:=h;exact⟨σ',H',I.unwish,q⟩
 |brk=>obtain⟨σ',H',I,q⟩:=h;exact⟨σ',H',I.unwish,q⟩
 |cont=>obtain⟨σ',H',I,q⟩:=h;exact⟨σ',H',I.unwish,q⟩
 |ret u=>obtain⟨v,σ',H',I,r,q⟩:=h;exact⟨v,σ',H',I.unwish,r,q⟩
theorem lj.nox {st:.a4}{t:TS}(h:lj X.nox st t):lj X st t:=fun pins s σ H D I B =>
 wpAny_mono (h pins s σ H D (I.wish _) B) (fun _ _ q=>q.unwish) fun _ _ z=>False.elim z
end
section
variable {X:Cx}{st:Stmt}{rest:.a4}{t u:TS}{e:Expr}{te:TE}{pos:Pos}
def Qw:TS:=fun D σ H=>D.nx σ H
def Td (t u:TS):TS:=fun D σ H=>t { D with nx:=u D } σ H
theorem ph:lj X [] Qw:=fun _ _ σ H _ I h=>wpAny_execs_nil ⟨σ,H,I,h⟩
theorem gN (h1:PS X st t)(h2:lj X rest u):lj X (st::rest) (Td t u):=by
 intro pins s σ H D I h
 refine wpAny_execs_cons (cF (h1 pins s σ H { D with nx:=u D } I h) fun f s1 q=>?_)
 cases f with
 |next =>
  obtain⟨σ',H',j,q⟩:=q
  exact h2 pins s1 σ' H' D j q
 |ret v=>exact q
 |brk=>exact q
 |cont=>exact q
theorem rR (h1:PS X st t):lj X [st] t:=by
 intro pins s σ H D I h
 refine wpAny_execs_cons (cF (h1 pins s σ H D I h) fun f s1 q=>?_)
 cases f with
 |next=>exact wpAny_execs_nil q
 |ret v=>exact q
 |brk=>exact q
 |cont=>exact q
theorem Inv.quiet {pins:.s}{σ:St}{H:Hp}{s:Shared}(I:.q):interactive X.env=false:=by simp [interactive,I.ok.kind]
def Qu (te:TE):TS:=fun D σ H=>te σ H fun _ H1=>D.nx σ H1
theorem pf (he:PE X e te)(hs:swapsWith e none pos.line X.env=pure false:=by rfl):PS X (.Expr e pos) (Qu te):=by
 intro pins s σ H D I h
 exact wpAny_Expr_any (cF .cS fun v s1 .cM=>⟨σ,H1,O,q1⟩) I.quiet hs
def Tb (te:TE):TS:=fun D σ H=>te σ H D.rt
theorem Cn (he:PE X e te):PS X (.Return (.aX e) pos) (Tb te):=by
 intro pins s σ H D I h
 exact wpAny_Return_some (cF .cS fun v s1 .cM=>⟨x,σ,H1,O,r1,q1⟩)
def S6 (c:TT)(t u:TS):TS:=fun D σ H=>c σ H fun b H1=>if b=true then t D σ H1 else u D σ H1
theorem AK {c:Expr}{a b:.a4}{tc:TT}(U:PT X c tc)(ha:lj X a t)(hb:lj X b u):PS X (.If c a b pos) (S6 tc t u):=by
 intro pins s σ H D I h
 refine wpAny_If (cF (U pins s σ H _ I h) fun d s1 ⟨H1,O,q1⟩=>?_)
 cases d with
 |true=>exact ha pins s1 σ H1 D O q1
 |false=>exact hb pins s1 σ H1 D O q1
def IY:TS:=fun _ _ _=>False
theorem Iz:PS X st IY:=fun _ _ _ _ _ _ h=>h.elim
theorem Fz {Ry:.a4}:lj X Ry IY:=fun _ _ _ _ _ _ h=>h.elim
end
abbrev TG:=V->St->Hp->(St->Hp->Prop)->Prop
abbrev Jj:=List V->St->Hp->(St->Hp->Prop)->Prop
noncomputable def PG (X:Cx)(target:Expr)(t:TG):Prop:=
 ∀(pins:.s) (s:Shared) (σ:St) (H:Hp) (v:V) (u:Value) (Q:St->Hp->Prop),Inv X pins σ H s->RelV v u->t v σ H Q ->
  wpAny .o X.A (assign target X.env u) (fun _ s'=>∃σ' H',Inv X pins σ' H' s'/\Q σ' H') X.xe s
noncomputable def N1 (X:Cx)(ts:.av)(t:Jj):Prop:=
 ∀(pins:.s) (s:Shared) (σ:St) (H:Hp) (vs:List V) (us:.S) (Q:St->Hp->Prop),Inv X pins σ H s->Vals vs us->t vs σ H Q ->
  wpAny .o X.A (assignInOrder ((assignEach ts X.env).map (·.2)) us) (fun _ s'=>∃σ' H',Inv X pins σ' H' s'/\Q σ' H') X.xe s
section
variable {X:Cx}{pos:Pos}
def Lv (i:Nat):TG:=fun v σ H Q=>Q (σ.set i .cY) H
theorem Kv {i:Nat}{x:Str}(J:.eM)(hi:X.N[i]? = some x)(hx:.ej)(hf:X.fn x=true\/X.env.scope.names.lookup x=some .local:=by first | exact .inl rfl | exact .inr rfl | assumption):PG X .fB (Lv i):=by
 intro pins s σ H v u Q I r h
 exact wpAny_assign_Name (pC I J hi hx r (fun s' j=>⟨_,H,j,h⟩) hf)
def R1:Jj:=fun vs σ H Q=>vs=[]/\Q σ H
def O0 (t:TG)(u:Jj):Jj:=fun vs σ H Q=>∃v r,vs=v::r/\t v σ H fun σ' H'=>u r σ' H' Q
theorem Kw:N1 X [] R1:=by
 intro pins s σ H vs us Q I r h
 obtain⟨e,h⟩:=h
 subst e
 cases r
 exact assignInOrder_nil ⟨σ,H,I,h⟩
theorem Iu {e:Expr}{es:.av}{t:TG}{u:Jj}(h1:PG X e t)(h2:N1 X es u)
  (hs:(assignEach (e::es) X.env).map (·.2)=assign e X.env::(assignEach es X.env).map (·.2):=by rfl):N1 X (e::es) (O0 t u):=by
 intro pins s σ H vs us Q I r h
 obtain⟨v,a,e1,h⟩:=h
 subst e1
 cases r with
 |cons r y =>
  rw [hs]
  refine assignInOrder_cons (cF (h1 pins s σ H _ _ _ I r h) fun _ s1 ⟨w,H1,O,q1⟩=>?_)
  exact h2 pins s1 w H1 _ _ Q O y q1
noncomputable def R4 (K:.j)(n:Nat)(t:Jj):TG:=fun v σ H Q=>∃a xs,v=.ref a/\mQ K H a xs/\xs.length=n/\t xs σ H Q
theorem Na {es:.av}{k:Nat}{t:Jj}{n:Nat}(U:.bp)(h:N1 X es t)
  (hn:(assignEach es X.env).length=n:=by rfl) (g:(assignEach es X.env).findIdx? (·.1)=none:=by rfl):PG X .gf (R4 X.K n t):=by
 intro pins s σ H v u Q I r B
 obtain⟨a,xs,e1,hq,hl,B⟩:=B
 subst e1
 cases r
 obtain⟨G,f,Y,hz⟩:=I.tuple hq
 refine assign_Tuple_tuple .dk Y (by simp [hn,<- hl,f.length]) g fun h' hx=>?_
 have O:.bo:=I.kept (t':=s.toks) fun b o e=>hx b o (zas .aJ) e
 exact h pins _ σ H xs _ Q O (by simpa using f) B
def Qq (te:TE)(g:TG):TS:=fun D σ H=>te σ H fun x H1=>g x σ H1 D.nx
theorem Nd {tg e:Expr}{te:TE}{g:TG}(he:PE X e te)(L:PG X tg g)(hs:swapsWithSole [tg] e pos.line X.env=pure false:=by rfl)(B:swappedStores [tg] e X.env=pure none:=by rfl)
  (h1:(assignEach [tg] X.env).map (·.2)=[assign tg X.env]:=by rfl):PS X (.Assign [tg] e pos) (Qq te g):=by
 intro pins s σ H D I h
 refine wpAny_Assign_stores (.l .cS) hs B
 rw [h1]
 exact cF (L pins s1 σ H1 x v _ O r1 q1) fun _ s2 q=>q
theorem ug {i:Nat}{x:Str}{e:Expr}{te:TE}{pos':Pos}(J:.eM)(hi:X.N[i]? = some x)(hx:.ej)(he:PE X e te)(hs:swapsWith e (.aX (.af pos')) pos.line X.env=pure false:=by rfl)(hf:X.fn x=true\/X.env.scope.names.lookup x=some .local:=by first | exact .inl rfl | exact .inr rfl | assumption):
  PS X (.aW e) (Qq te (Lv i)):=by
 intro pins s σ H D I h
 refine wpAny_Assign_Name (cF .cS fun v s1 ⟨y,H1,O,r1,q1⟩=>?_) hs
 exact pC O J hi hx r1 (fun s2 M=>⟨_,H1,M,q1⟩) hf
noncomputable def Ta (i j:Nat)(ta:TA):TS:=fun D σ H=>ta σ H fun vs H1=>∃v w,vs=[v,w]/\D.nx ((σ.set i .cY).set j (.aX w)) H1
theorem Ng {i j:Nat}{x y:Str}{a b:Expr}{ta:TA}{px n pt:Pos}{kt k2 g}(U:.bp)(J:.eM)(hi:X.N[i]? = some x)(P:X.N[j]? = some y)(k:i≠j)
  (hx:X.env.scope.names.lookup x=some .local) (R:.bN) (ha:PA X [a,b] ta)
  (B:swappedStores .gq .fq X.env=pure (some [x,y]))
  (hs:swapsWithSole .gq .fq pos.line X.env=pure false:=by rfl):
  PS X (.Assign .gq .fq pos) (Ta i j ta):=by
 intro pins s σ H D I h
 rw [exec_Assign_arm]
 refine .iK
 rw [hs]
 refine .f .b7
 rw [if_neg .e]
 refine .f (Tuple_ (cF (ha _ pins s σ H _ I h) fun us s1 .jq=>?_))
 obtain⟨v,w,e1,q1⟩:=q1
 subst e1
 obtain⟨L,S,rfl,f,c⟩:∃L S,us=[L,S]/\RelV v L/\RelV w S:=by
  cases r1 with
  |cons p q =>
   cases q with
   |cons d G =>
    cases G
    exact⟨_,_,rfl,p,d⟩
 refine wpAny_newObj_type ?_ (by show 2≤sizeLine;decide)
 have M:Inv X pins σ H1 { s1 with heap:=s1.heap.push { cls:=.type "tuple", data:=.seq [L,S].toArray } }:=O.kept (t':=s1.toks) fun b o e=>Heap.get?_push_of_some _ e
 rw [B]
 refine .f .b7
 show wpAny .o X.A (do rule "assign.swapped-stores";let items <- unpackItems .gW 2 none;assignInOrder [fun v=>bindName X.env y v,fun v=>bindName X.env x v] items.reverse;pure Flow.next) _ _ _
 refine .f (wpAny_rule (.L (unpackItems_tuple (items:=#[L,S]) .dk (IsTup.new s1.heap _) fun h' K=>?_)))
 have A:=M.kept (h':=h') (t':=s1.toks) fun b o e=>K b o (zas .aJ) e
 show wpAny _ _ (assignInOrder [fun v=>bindName X.env y v,fun v=>bindName X.env x v] [S,L] >>= fun _=>pure Flow.next) _ _ _
 refine .f (assignInOrder_cons (wpAny_bindName (pC A J P (.inl R) c (fun s2 t=>?_) (.inr R))))
 refine assignInOrder_cons (wpAny_bindName (pC t J hi (.inl hx) f (fun C V=>assignInOrder_nil .b7) (.inr hx)))
 rw [List.set_comm _ _ (.bf k)] at V
 exact⟨_,H1,V,q1⟩
end
section
variable {X:Cx}{pos:Pos}
noncomputable def NN (c:TT)(tb:TS):TS:=fun D σ H=>∃W:Nat->St->Hp->Prop,(∃m,W m σ H)/\∀m σ H,W m σ H ->
 c σ H fun b H1=>if b=true then ∃N:St->Hp->Prop,(∀σ' H',N σ' H'->∃E,E<m/\W E σ' H')/\tb { D with nx:=N,ct:=N,bk:=D.nx } σ H1 else D.nx σ H1
theorem IA {c:Expr}{body:.a4}{tc:TT}{tb:TS}(hp:.dq)(U:PT X c tc)(hb:lj X body tb):PS X (.While c body [] pos) (NN tc tb):=by
 intro pins s σ H D I h
 obtain⟨W,⟨m0,a⟩,turn⟩:=h
 refine wpAny_While (codeAny_whileLoop (fun n s'=>∃σ' H',Inv X pins σ' H' s'/\W n σ' H') ?_ m0 ⟨σ,H,I,a⟩)
 rintro n s1 ⟨w,H1,O,i⟩
 refine .a7 (cF (U pins s1 w H1 _ O (turn n w H1 i)) fun b s2 ⟨H2,M,q2⟩=>?_)
 cases b with
 |true =>
  obtain⟨N,J,q2⟩:=q2
  rw [if_pos rfl]
  refine .a7 (cF (hb pins s2 w H2 _ M q2) fun f C q3=>?_)
  cases f with
  |next =>
   obtain⟨j,H3,A,g⟩:=q3
   obtain⟨E,hm,k⟩:=J j H3 g
   exact⟨E,hm,j,H3,A,k⟩
  |cont =>
   obtain⟨j,H3,A,g⟩:=q3
   obtain⟨E,hm,k⟩:=J j H3 g
   exact⟨E,hm,j,H3,A,k⟩
  |brk=>exact q3
  |ret v=>exact q3
 |false =>
  rw [if_neg zaL]
  exact wpAny_execs_nil ⟨w,H2,M,q2⟩
end
structure It where
 go:Nat->Hp->Prop
 yld:Nat->Hp->V->Hp->Prop
 stop:Nat->Hp->Prop
noncomputable def si (X:Cx)(pins:.s)(H:Hp)(b:Addr):Prop:=
 H b=none/\b≠X.env.locals/\b∉X.fs/\(b∈X.ex\/X.Y8.heap.objs.size≤b)/\(∀x c,X.env.cells.lookup x=some c->c≠b)/\∀p∈X.pn++pins,p.1≠b
theorem Inv.fpOk {X:Cx}{pins:.s}{σ:St}{H H':Hp}{s:Shared}{b:Addr}(I:.q)(hb:s.heap.objs.size≤b)(hn:H' b=none):si X pins H' b:=by
 refine⟨hn,zaW (zau I.lt hb),I.nofs hb,.inr (zaz I.sz hb),fun x c e z=>?_,fun p hp z=>?_⟩
 ·obtain⟨v,q⟩:=I.cell x c e
  exact absurd (zau q.lt (by rw [z];exact hb)) (za4 _)
 ·exact absurd (zau (Heap.lt_size (I.pin p hp).1) (by rw [z];exact hb)) (za4 _)
structure Turn (P:.ai)(w:World)(K:.j)(tg:Expr)(J:It)(fp:.V)(it:Addr)(tn:Nat->Heap->Prop):Prop where
 mem:it∈fp
 obj:∀i h,tn i h->∀b∈fp,∃o,h.get? b=some o/\∀v,o.data≠.cell v
 keep:∀i h h',tn i h->(∀b∈fp,∀o,h.get? b=some o->h'.get? b=some o)->tn i h'
 item:∀(X:Cx),X.prog=P->X.w=w->X.K=K->X.calm=true->∀(i:Nat) (pins:.s) (s:Shared) (σ:St) (H:Hp) (E:.n),Inv X pins σ H s->(∀b∈fp,si X pins H b)->tn i s.heap->J.go i H ->
  wpAny .gG X.A (pyNext .hD) (fun r s1=>∃u,r=some u /\
   wpAny .gG X.A (letOwnedTupleGo tg .hD u) (fun _ s2=>∃x H',Inv X pins σ H' s2/\RelV x u/\J.yld i H x H'/\tn (i+1) s2.heap/\∀b∈fp,H' b=none) E s1) E s
 done:∀(X:Cx),X.prog=P->X.w=w->X.K=K->X.calm=true->∀(i:Nat) (pins:.s) (s:Shared) (σ:St) (H:Hp) (E:.n),Inv X pins σ H s->(∀b∈fp,si X pins H b)->tn i s.heap->J.stop i H ->
  wpAny .gG X.A (pyNext .hD) (fun r s1=>r=none/\Inv X pins σ H s1) E s
 self:∀(A:Around) (i:Nat) (s:Shared) (Q:.n) (E:.n),tn i s.heap->Q .hD s->wpAny .gG A (pyIter .hD) Q E s
abbrev TI:=St->Hp->(It->Hp->Prop)->Prop
noncomputable def RR (X:Cx)(pins:.s)(σ:St)(tg:Expr)(R:It->Hp->Prop)(a:Value)(s2:Shared):Prop:=
 ∃(it:Addr) (fp:.V) (tn:Nat->Heap->Prop) (J:It) (H':Hp),a=.ref it/\Inv X pins σ H' s2/\Turn X.prog X.w X.K tg J fp it tn/\tn 0 s2.heap/\(∀b∈fp,si X pins H' b)/\R J H'
noncomputable def PI (X:Cx)(tg iter:Expr)(d:TI):Prop:=
 ∀(pins:.s) (s:Shared) (σ:St) (H:Hp) (R:It->Hp->Prop),Inv X pins σ H s->d σ H R ->
  wpAny .o X.A (.V iter) (fun v s1=>wpAny .o X.A (pyIter v) (RR X pins σ tg R) X.xe s1) X.xe s
theorem zP {M:Model}{A:Around}{E:.n}{s:Shared}{tg:Expr}{it:Addr}{u:Value}{o:Obj}{n:String}{vs:.cP}{Q:.dR}(ho:s.heap.get? it=some o)(U:o.cls=.type n)(hd:o.data=.fields vs)
    (hn:["enumerate","zip","dict_itemiterator","dict_reverseitemiterator","odict_iterator","itertools.zip_longest","itertools.pairwise"].contains n=false) (d:Q () s):wpAny M A (letOwnedTupleGo tg .hD u) Q E s:=by
  unfold letOwnedTupleGo
  cases tg<;>first
    |exact wpAny_pure d
    | (cases u<;>first
        |exact wpAny_pure d
        | (refine wpAny_bind (wpAny_load ho ?_)
           rw [U,hd]
           show wpAny M A (if (["enumerate","zip","dict_itemiterator","dict_reverseitemiterator","odict_iterator","itertools.zip_longest","itertools.pairwise"].contains n&&vs[0]? == some (rawInt _))=true then _ else _) Q E s
           rw [if_neg (by intro h;rw [hn,Bool.false_and] at h;cases h)]
           exact wpAny_pure d))
noncomputable def RM (K:.j)(a:Addr):It:=
 ⟨fun i H=>∃xs x,gE K H a xs/\xs[i]? = some x,fun i H x H'=>H'=H/\∀xs,gE K H a xs->xs[i]? = some x,fun i H=>∃xs,gE K H a xs/\xs.length≤i⟩
noncomputable def RO (K:.j)(a:Addr):It:=
 ⟨fun i H=>∃xs x,mQ K H a xs/\xs[i]? = some x,fun i H x H'=>H'=H/\∀xs,mQ K H a xs->xs[i]? = some x,fun i H=>∃xs,mQ K H a xs/\xs.length≤i⟩
def QL (lo:Int)(n:Nat):It:=⟨fun i _=>i<n,fun i H x H'=>H'=H/\x=.int (lo+i),fun i _=>n≤i⟩
theorem FN {P:.ai}{w:World}{K:.j}{tg:Expr}(a it:Addr):Turn P w K tg (RM K a) [it] it (fun i h=>h.IsListIter it a i) where
 mem:=.f
 obj:=fun i h st b hb=>by
  have e:b=it:=by simpa using hb
  subst e
  obtain⟨o,e,c,d⟩:=st
  exact⟨o,e,fun v z=>by rw [d] at z;cases z⟩
 keep:=fun i h h' st k=>st.at fun o e=>k it .f o e
 item:=by
  intro X j B T U i pins s σ H E I hf st L
  subst j B T
  obtain⟨xs,x,hq,hx⟩:=L
  obtain⟨G,f,p,hz⟩:=I.list hq
  obtain⟨u,hu,S⟩:=f.get hx
  obtain⟨f0,f1,f2,M,f4,F⟩:=hf it .f
  refine wpAny_pyNext_list_item st p.isList (x:=u) (by simpa using hu) fun h' g N=>?_
  have O:.bo:=I.turned (t':=s.toks) .et f0 f1 M f4 F
  obtain⟨o,e,c,d⟩:=id g
  exact⟨u,rfl,zP (s:={ s with heap:=h' }) e c d .e ⟨x,H,O,S,⟨rfl,fun ys R=>by rw [I.list_inj R hq];exact hx⟩,g,fun b hb=>(hf b hb).1⟩⟩
 done:=by
  intro X j B T U i pins s σ H E I hf st L
  subst j B T
  obtain⟨xs,hq,hx⟩:=L
  obtain⟨G,f,p,hz⟩:=I.list hq
  obtain⟨f0,f1,f2,M,f4,F⟩:=hf it .f
  have hl:=f.length
  exact wpAny_pyNext_list_end .dk st p.isList .i fun h' C=>⟨rfl,I.turned (t':=s.toks) (fun b o hb e=>C b o hb e) f0 f1 M f4 F⟩
 self:=fun _ _ _ _ _ st h=>wpAny_pyIter_listiter st h
theorem CF {P:.ai}{w:World}{K:.j}{tg:Expr}(a it:Addr):Turn P w K tg (RO K a) [it] it (fun i h=>h.IsTupleIter it a i) where
 mem:=.f
 obj:=fun i h st b hb=>by
  have e:b=it:=by simpa using hb
  subst e
  obtain⟨o,e,c,d⟩:=st
  exact⟨o,e,fun v z=>by rw [d] at z;cases z⟩
 keep:=fun i h h' st k=>st.at fun o e=>k it .f o e
 item:=by
  intro X j B T U i pins s σ H E I hf st L
  subst j B T
  obtain⟨xs,x,hq,hx⟩:=L
  obtain⟨G,f,p,hz⟩:=I.tuple hq
  obtain⟨u,hu,S⟩:=f.get hx
  obtain⟨f0,f1,f2,M,f4,F⟩:=hf it .f
  refine wpAny_pyNext_tuple_item st (show s.heap.IsTuple a G.toArray from p) (x:=u) (by simpa using hu) fun h' g N=>?_
  have O:.bo:=I.turned (t':=s.toks) .et f0 f1 M f4 F
  obtain⟨o,e,c,d⟩:=id g
  exact⟨u,rfl,zP (s:={ s with heap:=h' }) e c d .e ⟨x,H,O,S,⟨rfl,fun ys R=>by rw [I.tuple_inj R hq];exact hx⟩,g,fun b hb=>(hf b hb).1⟩⟩
 done:=by
  intro X j B T U i pins s σ H E I hf st L
  subst j B T
  obtain⟨xs,hq,hx⟩:=L
  obtain⟨G,f,p,hz⟩:=I.tuple hq
  obtain⟨f0,f1,f2,M,f4,F⟩:=hf it .f
  have hl:=f.length
  exact wpAny_pyNext_tuple_end .dk st (show s.heap.IsTuple a G.toArray from p) .i fun h' C=>⟨rfl,I.turned (t':=s.toks) (fun b o hb e=>C b o hb e) f0 f1 M f4 F⟩
 self:=fun _ _ _ _ _ st h=>wpAny_pyIter_tupleiter st h
theorem CD {P:.ai}{w:World}{K:.j}{tg:Expr}(it:Addr)(lo:Int)(n:Nat):Turn P w K tg (QL lo n) [it] it (fun i h=>IsRangeIter h it (lo+(i:Nat)*1) ((n:Int)-(i:Nat)) 1) where
 mem:=.f
 obj:=fun i h st b hb=>by
  have e:b=it:=by simpa using hb
  subst e
  exact⟨_,st,fun v z=>by
   have S:Data.fields _=Data.cell v:=z
   cases S⟩
 keep:=fun i h h' st k=>k it .f _ st
 item:=by
  intro X j B T U i pins s σ H E I hf st L
  subst j B T
  obtain⟨f0,f1,f2,M,f4,F⟩:=hf it .f
  have W:=Walks.range (prog:=X.prog) (w:=X.w) .dk it lo 1 n
  refine W.item i s _ _ L st fun v h' tk Z g kk=>?_
  obtain⟨t,rfl⟩:=Z
  have O:.ff:=I.turned .fd f0 f1 M f4 F
  refine⟨_,rfl,zP (s:={ s with heap:=h',toks:=tk }) (n := "range_iterator") g rfl rfl .e ⟨.int (lo+i),H,O,⟨t,?_⟩,⟨rfl,rfl⟩,g,fun b hb=>(hf b hb).1⟩⟩
  rw [Int.mul_one]
 done:=by
  intro X j B T U i pins s σ H E I hf st L
  subst j B T
  obtain⟨f0,f1,f2,M,f4,F⟩:=hf it .f
  exact wpAny_pyNext_range_end .dk st (by have:n≤i:=L;omega) fun h' C=>⟨rfl,I.turned (t':=s.toks) (fun b o hb e=>C b o hb e) f0 f1 M f4 F⟩
 self:=fun _ _ _ _ _ st h=>wpAny_pyIter_rangeiter st h
section
variable {X:Cx}{tg:Expr}
noncomputable def Pa (K:.j)(tl:TE):TI:=fun σ H R=>tl σ H fun x H1=>∃a,x=.ref a/\(∃xs,gE K H1 a xs)/\R (RM K a) H1
noncomputable def R7 (K:.j)(tl:TE):TI:=fun σ H R=>tl σ H fun x H1=>∃a,x=.ref a/\(∃xs,mQ K H1 a xs)/\R (RO K a) H1
theorem Ky {l:Expr}{tl:TE}(hl:PE X l tl):PI X tg l (Pa X.K tl):=by
 intro pins s σ H R I h
 refine .l .fI
 obtain⟨a,e,⟨xs,hq⟩,q⟩:=q1
 subst e
 cases r1
 obtain⟨G,f,p,hz⟩:=O.list hq
 refine wpAny_pyIter_list p.isList ?_
 refine⟨s1.heap.objs.size,.fg,_,_,H1,rfl,O.kept (t':=s1.toks) fun b o e=>Heap.get?_push_of_some _ e,FN a _,.dz,fun b hb=>?_,q⟩
 have e:b=s1.heap.objs.size:=by simpa using hb
 subst e
 exact .ad .bJ
theorem Nc {l:Expr}{tl:TE}(hl:PE X l tl):PI X tg l (R7 X.K tl):=by
 intro pins s σ H R I h
 refine .l .fI
 obtain⟨a,e,⟨xs,hq⟩,q⟩:=q1
 subst e
 cases r1
 obtain⟨G,f,p,hz⟩:=O.tuple hq
 refine wpAny_pyIter_tuple (show s1.heap.IsTuple a G.toArray from p) ?_
 refine⟨s1.heap.objs.size,.fg,_,_,H1,rfl,O.kept (t':=s1.toks) fun b o e=>Heap.get?_push_of_some _ e,CF a _,.dz,fun b hb=>?_,q⟩
 have e:b=s1.heap.objs.size:=by simpa using hb
 subst e
 exact .ad .bJ
theorem ID {pins:.s}{σ:St}{H:Hp}{s:Shared}{R:It->Hp->Prop}{E:.n}{lo hi:Int}{t u v:Tok}{tk:Nat}(I:.q)(h1 : -(2^62)≤lo)(h2:lo<2^62)(M : -(2^62)≤hi)(D:hi<2^62)
  (q:R (QL lo (hi-lo).toNat) H):wpAny .o X.A (pyIter .b5) (RR X pins σ tg R) E { s with heap:=s.heap.push { cls:=.type "range", data:=.fields #[.int lo t,.int hi u,.int 1 v] },toks:=tk }:=by
 refine wpAny_pyIter_range (IsRange.new ..) (small_one h1 h2 M D) ?_
 have O:Inv X pins σ H { s with heap:=s.heap.push { cls:=.type "range", data:=.fields #[.int lo t,.int hi u,.int 1 v] },toks:=tk }:=I.kept fun b o e=>Heap.get?_push_of_some _ e
 refine⟨(s.heap.push { cls:=.type "range", data:=.fields #[.int lo t,.int hi u,.int 1 v] }).objs.size,[(s.heap.push { cls:=.type "range", data:=.fields #[.int lo t,.int hi u,.int 1 v] }).objs.size],_,_,H,rfl,
  O.kept (t':=tk) fun b o e=>Heap.get?_push_of_some _ e,CD _ lo (hi-lo).toNat,?_,fun b hb=>?_,q⟩
 ·have e1:lo+((0:Nat):Int)*1=lo:=.f
  have e2:(((hi-lo).toNat:Nat):Int)-((0:Nat):Int)=Builtin.Range.rangeSize lo hi 1:=by rw [rangeSize_one];split<;>omega
  show IsRangeIter _ _ (lo+((0:Nat):Int)*1) ((((hi-lo).toNat:Nat):Int)-((0:Nat):Int)) 1
  rw [e1,e2]
  exact .ac
 ·have e:b=(s.heap.push { cls:=.type "range", data:=.fields #[.int lo t,.int hi u,.int 1 v] }).objs.size:=by simpa using hb
  subst e
  exact .ad .bJ
noncomputable def Pc (ta:TA):TI:=fun σ H R=>ta σ H fun vs H1=>∃j:Int,vs=[.int j] /\ -(2^62)≤j/\j<2^62/\R (QL 0 j.toNat) H1
theorem Fx {a:Expr}{ta:TA}{p pos:Pos}(L:Gl X "range")(hm:X.mg "range" = none)(ha:PA X [a] ta)(hs:starEach [a] X.env=[(.p a)]:=by rfl):PI X tg (.Call (.Name "range" p) [a] [] pos) (Pc ta):=by
 intro pins s σ H R I h
 refine Call_ (qb I L hm boot_range (za7 (cF .ew fun us s1 .jq=>?_) hs rfl))
 obtain⟨j,e,q1,q2,q⟩:=q1
 subst e
 cases r1 with
 |cons r y =>
  cases y
  obtain⟨t,rfl⟩:=r
  exact call_range_1 (ID O .d .d q1 q2 (by simpa using q))
noncomputable def S5 (d:TI)(g:TG)(tb:TS):TS:=fun D σ H=>d σ H fun J H1=>∃W:Nat->Nat->St->Hp->Prop,(∃m,W 0 m σ H1)/\∀i m σ H,W i m σ H ->
 (J.stop i H/\D.nx σ H)\/(J.go i H/\∃N:St->Hp->Prop,(∀σ' H',N σ' H'->∃E,E<m/\W (i+1) E σ' H')/\∀x H',J.yld i H x H'->g x σ H' fun l H2=>tb { D with nx:=N,ct:=N,bk:=D.nx } l H2)
def qj (fp:.V)(h:Heap):List (Addr×Obj):=fp.filterMap fun b=>(h.get? b).map fun o=>(b,o)
theorem gj {fp:.V}{h:Heap}{b:Addr}{o:Obj}(hb:b∈fp)(e:h.get? b=some o):(b,o)∈qj fp h:=List.mem_filterMap.mpr ⟨b,hb,by rw [e];rfl⟩
theorem Fu {fp:.V}{h:Heap}{p:Addr×Obj}(hp:p∈qj fp h):p.1∈fp/\h.get? p.1=some p.2:=by
 obtain⟨b,hb,e⟩:=List.mem_filterMap.mp hp
 cases q:h.get? b with
 |none=>rw [q] at e;cases e
 |some o =>
  rw [q] at e
  have j:(b,o)=p:=zaN e
  subst j
  exact⟨hb,q⟩
theorem Inv.pinned {pins:.s}{σ:St}{H:Hp}{s:Shared}{fp:.V}(I:.q)(hf:∀b∈fp,si X pins H b)(ho:∀b∈fp,∃o,s.heap.get? b=some o/\∀v,o.data≠.cell v):Inv X (pins++qj fp s.heap) σ H s:=
 I.pins_of fun p hp=>(zaA.mp hp).elim (fun z=>I.pin p (zat _ z)) fun z=>by
  obtain⟨hb,e⟩:=Fu z
  obtain⟨f0,f1,f2,_⟩:=hf p.1 hb
  obtain⟨o,j,d⟩:=ho p.1 hb
  rw [e] at j;cases j
  exact⟨e,f0,f1,f2,d⟩
theorem Inv.unpinned {pins pl:.s}{σ:St}{H:Hp}{s:Shared}(I:Inv X (pins++pl) σ H s):Inv X pins σ H s:=I.pins_of fun p hp=>I.pin p (zat _ (zbd _ hp))
theorem Cm {iter:Expr}{body:.a4}{wi:TI}{g:TG}{tb:TS}{pos:Pos}(hp:.dq)(U:.bp)(hi:PI X tg iter wi)(L:PG X tg g)(hb:lj X body tb)
  (hs:∀x,foldedSetIterable iter X.env x=pure x:=by intro _;rfl):PS X .gj (S5 wi g tb):=by
 intro pins s σ H D I h
 refine wpAny_For (cF (hi pins s σ H _ I h) fun v s1 h1=>cF h1 fun itv s2 h2=>?_) hs
 obtain⟨it,fp,tn,J,H2,e,M,T,c,f2,W,⟨m0,w0⟩,turn⟩:=h2
 subst e
 have G:∀{H':Hp},(∀b∈fp,H' b=none)->∀b∈fp,si X pins H' b:=fun hn b hb=>⟨hn b hb,(f2 b hb).2⟩
 refine codeAny_forLoop_any (fun n s'=>∃i σ' H',Inv X pins σ' H' s'/\tn i s'.heap/\(∀b∈fp,H' b=none)/\W i n σ' H') ?_ m0 ⟨0,σ,H2,M,c,fun b hb=>(f2 b hb).1,w0⟩
 rintro n s3 ⟨i,j,H3,A,y,z,w3⟩
 rcases turn i n j H3 w3 with ⟨stop,p⟩ | ⟨go,N,Q,step⟩
 ·refine wpAny_passesOwn hp (cF (T.done X rfl rfl rfl U i pins s3 j H3 X.xe A (G z) y stop) fun r P ⟨hr,t⟩=>?_)
  subst hr
  exact wpAny_execs_nil ⟨j,H3,t,p⟩
 ·refine wpAny_passesOwn hp (cF (T.item X rfl rfl rfl U i pins s3 j H3 X.xe A (G z) y go) fun r P ⟨u,hr,K⟩=>?_)
  subst hr
  refine .a7 (cF K fun _ s5 ⟨x,C,V,r5,F,k,O⟩=>?_)
  have S:=V.pinned (G O) (T.obj _ _ k)
  refine .a7 (cF (L _ s5 j C x u _ S r5 (step x C F)) fun _ Z ⟨a,Y,I6,q6⟩=>?_)
  refine .a7 (cF (hb _ Z a Y _ I6 q6) fun f R q7=>?_)
  have again:∀{l:St} {q:Hp},Inv X (pins++qj fp s5.heap) l q R->N l q->∃m,m<n/\∃i σ' H',Inv X pins σ' H' R/\tn i R.heap/\(∀b∈fp,H' b=none)/\W i m σ' H':=fun {l q} w n7=>by
   obtain⟨E,hm,w7⟩:=Q l q n7
   refine⟨E,hm,i+1,l,q,w.unpinned,T.keep _ _ _ k fun b hb o e=>(w.pin (b,o) .dE).1,fun b hb=>?_,w7⟩
   obtain⟨o,e,d⟩:=T.obj _ _ k b hb
   exact (w.pin (b,o) .dE).2.1
  cases f with
  |next=>obtain⟨l,q,w,n7⟩:=q7;exact again w n7
  |cont=>obtain⟨l,q,w,n7⟩:=q7;exact again w n7
  |brk=>obtain⟨l,q,w,q7⟩:=q7;exact⟨l,q,w.unpinned,q7⟩
  |ret v=>obtain⟨B,l,q,w,r7,q7⟩:=q7;exact⟨B,l,q,w.unpinned,r7,q7⟩
end
abbrev R2:=V->V->Hp->VK->Prop
noncomputable def pS (X:Cx)(f:.ef)(r:R2):Prop:=
 ∀(pins:.s) (s:Shared) (σ:St) (H:Hp) (x y:V) (v u:Value) (Q:VK),Inv X pins σ H s->RelV x v->RelV y u->r x y H Q ->
  wpAny .o X.A (f v u) .bR X.xe s
noncomputable def QR (X:Cx)(f:Value->Sem Value)(r:V->Hp->VK->Prop):Prop:=
 ∀(pins:.s) (s:Shared) (σ:St) (H:Hp) (x:V) (v:Value) (Q:VK),Inv X pins σ H s->RelV x v->r x H Q ->
  wpAny .o X.A (f v) .bR X.xe s
noncomputable def fR (X:Cx)(f:Value)(r:.jj):Prop:=
 ∀(pins:.s) (s:Shared) (σ:St) (H:Hp) (xs:List V) (us:.S) (Q:VK),Inv X pins σ H s->Vals xs us->r xs H Q ->
  wpAny .o X.A (call f us) .bR X.xe s
noncomputable def RT (X:Cx)(r:V->Hp->(Bool->Hp->Prop)->Prop):Prop:=
 ∀(pins:.s) (s:Shared) (σ:St) (H:Hp) (x:V) (v:Value) (Q:Bool->Hp->Prop),Inv X pins σ H s->RelV x v->r x H Q ->
  wpAny .o X.A (truthy v) (TP X pins σ Q) X.xe s
def Qz (r:R2)(ta tb:TE):TE:=fun σ H Q=>ta σ H fun x H1=>tb σ H1 fun y H2=>r x y H2 Q
def Ux (r:V->Hp->VK->Prop)(ta:TE):TE:=fun σ H Q=>ta σ H fun x H1=>r x H1 Q
noncomputable def rI (C:Int->Int->Prop)(g:Int->Int->V):R2:=fun x y H Q=>∃i j,x=.int i/\y=.int j/\C i j/\Q .h4 H
def KN (g:Int->Int->V):R2:=fun x y H Q=>∃i j,x=.int i/\y=.int j/\Q .h4 H
def rU (g:Int->V):V->Hp->VK->Prop:=fun x H Q=>∃i,x=.int i/\Q (g i) H
section
variable {X:Cx}{a b c:Expr}{ta tb tc:TE}{pos:Pos}
theorem L3 (ha:.f5)(hb:PE X b tb){pins:.s}{s:Shared}{σ:St}{H:Hp}{R:V->V->Hp->Prop}(I:.q)
  (h:ta σ H fun x H1=>tb σ H1 fun y H2=>R x y H2) {Q:.n} {f:.ef}
  (hf:∀v u s2 x y H2,Inv X pins σ H2 s2->RelV x v->RelV y u->R x y H2->wpAny .o X.A (f v u) Q X.xe s2):
  wpAny .o X.A (.V a) (fun v g=>wpAny .o X.A (.V b) (fun u d=>wpAny .o X.A (f v u) Q X.xe d) X.xe g) X.xe s:=by
 refine .l .a7
 refine cF .gw fun u s2 ⟨y,H2,M,r2,q2⟩=>?_
 exact hf v u s2 x y H2 M r1 r2 q2
theorem P1 {i:Operator}{r:R2}(ho:pS X (binaryOp i) r)(ha:.f5)(hb:PE X b tb):PE X (.BinOp a i b pos) (Qz r ta tb):=by
 intro pins s σ H Q I h
 exact wpAny_BinOp (L3 ha hb I h fun v u s2 x y H2 M N S q=>ho pins s2 σ H2 x y v u Q M N S q)
theorem P4 {i:UnaryOp}{r:V->Hp->VK->Prop}(ho:QR X (unaryOp i) r)(ha:.f5):PE X (.UnaryOp i a pos) (Ux r ta):=by
 intro pins s σ H Q I h
 exact UnaryOp_ (cF .a7 fun v s1 .cM=>ho pins s1 σ H1 x v Q O r1 q1)
theorem Rt {f:.ef}{C:Int->Int->Prop}{g:Int->Int->Int}
  (rule:∀(i j:Int) (t u:Tok) (s:Shared) (Q:.n) (E:.n),C i j->Q (.int .h4 s.toks) { s with toks:=s.toks+1 }->wpAny .o X.A (f (.ae i t) (.ae j u)) Q E s):
  pS X f (rI C fun i j=>.int .h4):=by
 intro pins s σ H x y v u Q I N S h
 obtain⟨i,j,rfl,rfl,U,q⟩:=h
 obtain⟨t,rfl⟩:=N
 obtain⟨t',rfl⟩:=S
 exact rule i j t t' s _ _ U (.a4 (g i j))
theorem PK {f:.ef}{g:Int->Int->Int}
  (rule:∀(i j:Int) (t u:Tok) (s:Shared) (Q:.n) (E:.n),Q (.int .h4 s.toks) { s with toks:=s.toks+1 }->wpAny .o X.A (f (.ae i t) (.ae j u)) Q E s):
  pS X f (KN fun i j=>.int .h4):=by
 intro pins s σ H x y v u Q I N S h
 obtain⟨i,j,rfl,rfl,q⟩:=h
 obtain⟨t,rfl⟩:=N
 obtain⟨t',rfl⟩:=S
 exact rule i j t t' s _ _ (.a4 (g i j))
theorem Kj {f:.ef}{g:Int->Int->Bool}
  (rule:∀(i j:Int) (t u:Tok) (s:Shared) (Q:.n) (E:.n),Q (.bool .h4) s->wpAny .o X.A (f (.ae i t) (.ae j u)) Q E s):
  pS X f (KN fun i j=>.bl .h4):=by
 intro pins s σ H x y v u Q I N S h
 obtain⟨i,j,rfl,rfl,q⟩:=h
 obtain⟨t,rfl⟩:=N
 obtain⟨t',rfl⟩:=S
 exact rule i j t t' s _ _ ⟨.bl .h4,H,I,rfl,q⟩
def Jn (i j:Int):Prop:=0≤j/\j≤1000000/\i.natAbs<2^64
theorem MM:pS X .hA (KN fun i j=>.int (i+j)):=PK fun _ _ _ _ _ _ _ q=>add_int q
theorem MR:pS X (binaryOp .Sub) (KN fun i j=>.int (i-j)):=PK fun _ _ _ _ _ _ _ q=>sub_int q
theorem Kl:pS X (binaryOp .Mod) (rI (fun _ j=>j≠0) fun i j=>.int (i.fmod j)):=Rt fun _ _ _ _ _ _ _ U q=>mod_int' U q
theorem MP:pS X (binaryOp .Pow) (rI Jn fun i j=>.int (i^j.toNat)):=Rt fun _ _ _ _ _ _ _ U q=>pow_int_small U.1 U.2.1 U.2.2 q
theorem Uz {f:Value->Sem Value}{g:Int->Int}
  (rule:∀(i:Int) (t:Tok) (s:Shared) (Q:.n) (E:.n),Q (.int (g i) s.toks) { s with toks:=s.toks+1 }->wpAny .o X.A (f (.ae i t)) Q E s):
  QR X f (rU fun i=>.int (g i)):=by
 intro pins s σ H x v Q I N h
 obtain⟨i,rfl,q⟩:=h
 obtain⟨t,rfl⟩:=N
 exact rule i t s _ _ (.a4 (g i))
theorem NV:QR X (unaryOp .USub) (rU fun i=>.int (-i)):=Uz fun _ _ _ _ _ q=>neg_int q
end
section
variable {X:Cx}{a b c:Expr}{ta tb tc:TE}{pos:Pos}
theorem GV {pins:.s}{σ:St}{H:Hp}{s:Shared}{Q:VK}{k n:Bool}(I:.q)(q:Q (.bl k) H)(e:k=n):EP X pins σ Q (.bool n) s:=by
 subst e
 exact⟨.bl k,H,I,rfl,q⟩
theorem PQ:pS X (.ag .Lt) (.a6 (i<j)):=Kj fun _ _ _ _ _ _ _ q=>lt_int q
theorem PN:pS X (compareOp .LtE) (.a6 (i≤j)):=Kj fun _ _ _ _ _ _ _ q=>le_int q
theorem PM:pS X (.ag .Gt) (.a6 (j<i)):=Kj fun _ _ _ _ _ _ _ q=>gt_int q
theorem PL:pS X (compareOp .GtE) (.a6 (j≤i)):=Kj fun _ _ _ _ _ _ _ q=>ge_int q
theorem MO:pS X (.ag .Is) (fun x y H Q=>y=.non/\Q (.au (x=.non)) H):=by
 intro pins s σ H x y v u Q I N S h
 obtain⟨rfl,q⟩:=h
 cases S
 refine is_none_gen (GV I q ?_)
 cases x<;>first
  |(cases N;rfl)
  |(obtain⟨t,rfl⟩:=N;rfl)
theorem Km:pS X (compareOp .IsNot) (fun x y H Q=>y=.non/\Q (.bl (!decide (x=.non))) H):=by
 intro pins s σ H x y v u Q I N S h
 obtain⟨rfl,q⟩:=h
 cases S
 refine isnot_none_gen (GV I q ?_)
 cases x<;>first
  |(cases N;rfl)
  |(obtain⟨t,rfl⟩:=N;rfl)
theorem aX (b:Expr){i:CmpOp}(h:i≠.In:=by decide)(h2:i≠.NotIn:=by decide):behindInMarks i b=false:=by
 have e1:(i == CmpOp.In)=false:=by cases i<;>first | rfl | exact absurd rfl h
 have e2:(i == CmpOp.NotIn)=false:=by cases i<;>first | rfl | exact absurd rfl h2
 cases b<;>simp [behindInMarks,e1,e2]
theorem Ks {i:CmpOp}{r:R2}(ho:pS X (.ag i) r)(ha:.f5)(hb:PE X b tb)(hm:behindInMarks i b=false):PE X .gX (Qz r ta tb):=by
 intro pins s σ H Q I h
 exact wpAny_Compare1 (L3 ha hb I h fun v u s2 x y H2 M N S q=>ho pins s2 σ H2 x y v u Q M N S q) hm
def LQ (t:TE):TT:=fun σ H Q=>t σ H fun x H'=>∃k,x=.bl k/\Q k H'
theorem KG {i:CmpOp}{r:R2}(ho:pS X (.ag i) r)(ha:.f5)(hb:PE X b tb)(hm:behindInMarks i b=false):PT X .gX (LQ (Qz r ta tb)):=by
 intro pins s σ H Q I h
 refine wpAny_isTrue_Compare1 (cF .a7 fun v s1 .cM=>cF .gw fun u s2 ⟨y,H2,M,r2,q2⟩ =>
  cF .fU fun c C ⟨z,H3,A,r3,k,e,q3⟩=>?_) hm
 subst e
 cases r3
 exact .bo ⟨H3,A,q3⟩
noncomputable def CA (r Y:R2)(ta tb tc:TE):TE:=fun σ H Q=>ta σ H fun x H1=>tb σ H1 fun y H2=>r x y H2 fun z H3=>∃k,z=.bl k /\
 (if k=true then tc σ H3 fun B R=>Y y B R Q else Q .Q H3)
theorem Il {i l:CmpOp}{r Y:R2}(ho:pS X (.ag i) r)(f:pS X (.ag l) Y)(ha:.f5)(hb:PE X b tb)(U:PE X c tc)
  (hm:lastMarks [i,l] [b,c]=false:=by with_unfolding_all rfl):PE X .fN (CA r Y ta tb tc):=by
 intro pins s σ H Q I h
 refine Compare_chain (cF .a7 fun v s1 .cM=>chain_link (cF .gw fun u s2 ⟨y,H2,M,r2,q2⟩ =>
  cF .fU fun d C ⟨z,H3,A,r3,k,e,q3⟩=>?_)) hm
 subst e
 cases r3
 refine .je
 cases k with
 |false=>exact ite_ff ⟨.bl false,H3,A,rfl,q3⟩
 |true=>exact ite_tt (chain_last (cF (U pins C σ H3 _ A q3) fun B P ⟨S,R,t,r4,q4⟩=>f pins P σ R y S u B Q t r2 r4 q4))
theorem IB {i l:CmpOp}{r Y:R2}(ho:pS X (.ag i) r)(f:pS X (.ag l) Y)(ha:.f5)(hb:PE X b tb)(U:PE X c tc)
  (hm:lastMarks [i,l] [b,c]=false:=by with_unfolding_all rfl):PT X .fN (LQ (CA r Y ta tb tc)):=by
 intro pins s σ H Q I h
 refine isTrue_chain (cF .a7 fun v s1 .cM=>test_link (cF .gw fun u s2 ⟨y,H2,M,r2,q2⟩ =>
  cF .fU fun d C ⟨z,H3,A,r3,k,e,q3⟩=>?_)) hm
 subst e
 cases r3
 refine .je
 cases k with
 |false =>
  obtain⟨n,j,G⟩:=q3
  cases j
  exact ite_ff ⟨H3,A,G⟩
 |true =>
  refine ite_tt (test_last (cF (U pins C σ H3 _ A q3) fun B P ⟨S,R,t,r4,q4⟩=>cF (f pins P σ R y S u B _ t r2 r4 q4) fun d' s5 ⟨D,g,V,r5,k2,e2,q5⟩=>?_))
  subst e2
  cases r5
  exact .bo ⟨g,V,q5⟩
noncomputable def LY (K:.j)(x:V)(H:Hp)(k:Bool):Prop:=
 match x with
 | .non=>k=false
 | .bl b=>k=b
 | .int i=>k=(i != 0)
 | .str y=>y.length≤sizeLine/\k=((y.length:Int) != 0)
 | .byt y=>y.size≤sizeLine/\k=((y.size:Int) != 0)
 | .ref p=>(∃xs,gE K H p xs/\k = !xs.isEmpty)\/(∃xs,mQ K H p xs/\k = !xs.isEmpty)\/∃kvs,H p=some .aF/\k = !kvs.isEmpty
 |_=>False
theorem BU {κ:Type}{kvs:.c9}{vs:.dS}(r:.iM):(!vs.isEmpty) = !kvs.isEmpty:=by
 cases r<;>rfl
theorem tq {xs:List V}{G:.S}(r:Vals xs G):(!G.toArray.isEmpty) = !xs.isEmpty:=by
 cases r<;>simp
theorem qc:(sizeLine:Nat)<2^63:=by rw [sizeLine_eq];decide
theorem NR:RT X (fun x H Q=>∃k,LY X.K x H k/\Q k H):=by
 intro pins s σ H x v Q I N h
 obtain⟨k,e,q⟩:=h
 have hl:=qc
 have hs:sizeLine=16777216:=sizeLine_eq
 cases x with
 |non =>
  cases N
  have j:k=false:=e
  subst j
  exact truthy_none ⟨H,I,q⟩
 |bl b =>
  cases N
  have j:k=b:=e
  subst j
  exact .bo ⟨H,I,q⟩
 |int i =>
  obtain⟨t,rfl⟩:=N
  have j:k=(i != 0):=e
  subst j
  exact PySem.P.truthy_int ⟨H,I,q⟩
 |str y =>
  obtain⟨t,rfl⟩:=N
  obtain⟨R,j⟩:y.length≤sizeLine/\k=((y.length:Int) != 0):=e
  subst j
  exact PySem.P.truthy_str .d ⟨H,.hG,q⟩
 |byt y =>
  obtain⟨t,rfl⟩:=N
  obtain⟨R,j⟩:y.size≤sizeLine/\k=((y.size:Int) != 0):=e
  subst j
  exact PySem.W.truthy_bytes .d ⟨H,.hG,q⟩
 |ref p =>
  cases N
  have j:(∃xs,gE X.K H p xs/\k = !xs.isEmpty)\/(∃xs,mQ X.K H p xs/\k = !xs.isEmpty)\/∃kvs,H p=some .aF/\k = !kvs.isEmpty:=e
  rcases j with ⟨xs,hx,j⟩ | ⟨xs,hx,j⟩ | ⟨kvs,hx,j⟩
  ·subst j
   obtain⟨G,r,pl,hz⟩:=I.list hx
   have hlen:=r.length
   exact wpAny_truthy_list pl.isList (by simp only [List.size_toArray];omega) ⟨H,I.tok _,by rw [tq r];exact q⟩
  ·subst j
   obtain⟨G,r,pl,hz⟩:=I.tuple hx
   have hlen:=r.length
   exact truthy_tuple pl (by simp only [List.size_toArray];omega) ⟨H,I.tok _,by rw [tq r];exact q⟩
  ·subst j
   obtain⟨hz,hS,vs,r,m⟩:kvs.length≤sizeLine/\(p == sysModules)=false/\∃vs,KV kvs vs/\s.heap.DictOf (dh X.prog X.w) p vs:=I.hok p _ hx
   have hlen:kvs.length=vs.length:=Paired.length r
   exact wpAny_truthy_dict hS m .d ⟨H,I.tok _,by rw [BU r];exact q⟩
 |_=>exact (show False from e).elim
theorem IC (ha:.f5)(he:∀whole,isTrue a X.env whole=(do let v <- whole;standAt a.pos;holding [v] (truthy v))):
  PT X a (fun σ H Q=>ta σ H fun x H'=>∃k,LY X.K x H' k/\Q k H'):=by
 intro pins s σ H Q I h
 exact isTrue_plain (cF .a7 fun v s1 .cM=>NR pins s1 σ H1 x v Q O r1 q1) (he _)
theorem Cg:pS X .hA (fun x y H Q=>∃i j,x=.str i/\y=.str j/\i.length+j.length≤sizeLine/\Q (.str (i++j)) H):=by
 intro pins s σ H x y v u Q I N S h
 obtain⟨i,j,rfl,rfl,hz,q⟩:=h
 obtain⟨t,rfl⟩:=N
 obtain⟨t',rfl⟩:=S
 exact add_str (fun t' tk=>⟨.str (i++j),H,I.tok _,.ag,q⟩) hz
theorem vals1 {x:V}{us:.S}(r:Vals [x] us):∃u,us=[u]/\RelV x u:=by
 cases r with
 |cons r1 r2=>cases r2;exact⟨_,rfl,r1⟩
theorem vals2 {x y:V}{us:.S}(r:Vals [x,y] us):∃u B,us=[u,B]/\RelV x u/\RelV y B:=by
 cases r with
 |cons r1 r2 =>
  cases r2 with
  |cons r3 r4=>cases r4;exact⟨_,_,rfl,r1,r3⟩
theorem Gv:fR X (.builtin "abs") (fun xs H Q=>∃i,xs=[.int i]/\Q (.ak (if i<0 then -i else i)) H):=by
 intro pins s σ H xs us Q I r h
 obtain⟨i,rfl,q⟩:=h
 obtain⟨u,rfl,t,rfl⟩:=vals1 r
 exact call_abs_int fun u tk=>⟨.int (if i<0 then -i else i),H,I.tok _,.ag,q⟩
theorem EI (U:.bp):fR X (.builtin "min") (fun xs H Q=>∃i j,xs=[.int i,.int j]/\Q (.ak (if j<i then j else i)) H):=by
 intro pins s σ H xs us Q I r h
 obtain⟨i,j,rfl,q⟩:=h
 obtain⟨u,B,rfl,⟨t,rfl⟩,⟨t',rfl⟩⟩:=vals2 r
 refine min_two_ints .dk fun h' tk k=>⟨_,H,I.kept k,?_,q⟩
 by_cases P:j<i
 ·rw [if_pos P,if_pos P];exact⟨_,rfl⟩
 ·rw [if_neg P,if_neg P];exact⟨_,rfl⟩
theorem EF:fR X (.type "int") (fun xs H Q=>(∃i,xs=[.int i]/\Q .eQ H)\/∃k,xs=[.bl k]/\Q (.ak (if k then 1 else 0)) H):=by
 intro pins s σ H xs us Q I r h
 rcases h with ⟨i,rfl,q⟩ | ⟨k,rfl,q⟩
 ·obtain⟨u,rfl,t,rfl⟩:=vals1 r
  exact call_int_int ⟨.int i,H,I,.ag,q⟩
 ·obtain⟨u,rfl,r1⟩:=vals1 r
  cases r1
  exact call_int_bool (.a4 (if k then 1 else 0))
theorem xg:fR X (.type "str") (fun xs H Q=>∃i,xs=[.int i]/\i.natAbs.log2<1920/\Q (.str (toString i)) H):=by
 intro pins s σ H xs us Q I r h
 obtain⟨i,rfl,hz,q⟩:=h
 obtain⟨u,rfl,t,rfl⟩:=vals1 r
 exact PySem.P.str_of_int hz ⟨.str _,H,.hG,.ag,q⟩
end
structure Bo (h:Heap)(x dx C:Addr)(mA:.G):Prop where
 obj:h.get? x=some (PySem.W.instObj C dx)
 ns:h.Ns1 dx mA
 ne:dx≠x
theorem Fo {h:Heap}{dx:Addr}{mA:.G}(n:h.Ns1 dx mA):∃od,h.get? dx=some od/\∀name,PySem.W.lookIn name od=some (mA name):=by
 obtain⟨o,es,ep,ho,hd,hk,_,hm⟩:=n
 refine⟨o,ho,fun name=>?_⟩
 have e:=hm name
 unfold nsFind findBy at e
 rw [<- Array.find?_toList] at e
 unfold PySem.W.lookIn
 rw [hd]
 dsimp only
 split
 ·rename_i y q
  rw [q] at e
  exact congrArg some e
 ·rename_i q
  rw [q] at e
  have a:es.toList.any (·.refKey)=false:=by
   rw [List.any_eq_false]
   intro y R
   obtain⟨z,t,g⟩:=hk y (Array.mem_toList_iff.mp R)
   simp [DictEntry.refKey,g]
  have b:¬ es.toList.any (·.refKey)=true:=by rw [a];exact zaL
  rw [if_neg b]
  exact congrArg some e
theorem Bo.look {h:Heap}{x dx C:Addr}{mA:.G}(I:Bo h x dx C mA):∃od,PySem.W.InstAt h x (PySem.W.instObj C dx) C (.aX od)/\∀name,PySem.W.lookIn name od=some (mA name):=
 let ⟨od,ho,hl⟩:=Fo I.ns
 ⟨od,⟨I.obj,rfl,rfl,ho⟩,hl⟩
section
variable {prog:.ai}{w:World}{A:Around}{E:.n}{s:Shared}{K:.j}{x dx C f:Addr}{mA:.G}{name:Str}{v:Value}
theorem get_map {expr:Bool}{Q:.n}(X:K.In s.heap)(I:Bo s.heap x dx C mA)(L:PySem.W.plainGet K C name=true)(P:PySem.W.hasDictIn K C=true)
  (ha:PySem.W.findIn K (.d C) name=some none) (Z:mA name=some v) (i:PySem.W.handedIn v=true) (h:Q v { s with toks:=s.toks+1 }):
  wpAny .O A (getAttr (.d x) name expr) Q E s:=by
 obtain⟨od,J,hl⟩:=I.look
 exact PySem.W.get_value X J (zbx L).1 (PySem.W.findObj_own P ha rfl (by rw [hl,Z])) i h
theorem G8 {pl:Sem Bool}{Q:Value×List Value->Shared->Prop}(X:K.In s.heap)(I:Bo s.heap x dx C mA)(L:PySem.W.plainGet K C name=true)
  (hf:PySem.W.findIn K (.d C) name=some (.R f)) (Y:PySem.W.isFn K (.d f)=true) (Z:mA name=none) (h:Q (.ref f,[.ref x]) s):
  wpAny .O A (getMethod (.d x) name pl) Q E s:=by
 obtain⟨od,J,hl⟩:=I.look
 exact PySem.W.method_fn X J (zbx L).1 (zbx L).2 hf (beq_iff_eq.mp Y) (by show (PySem.W.lookIn name od).map (·.isSome)=some false;rw [hl,Z];rfl) h
theorem KR {ns:.U}{Q:.dR}(X:K.In s.heap)(I:Bo s.heap x dx C mA)
  (hs:PySem.W.findIn K (.d C) "__setattr__" = some (.aX (.builtin "object.__setattr__"))) (hp:PySem.W.plainOver K C=true) (Y:PySem.W.takerIn K C name=some none) (P:PySem.W.hasDictIn K C=true)
  (B:PySem.Within mA ns) (hsz:ns.length≤sizeLine)
  (h:∀h',Bo h' x dx C (fun y=>if y=name then some v else mA y)->Heap.SameBut dx s.heap h'->Q () { s with heap:=h',toks:=s.toks+2 }):
  wpAny .O A (setAttr (.d x) name v) Q E s:=by
 obtain⟨od,J,hl⟩:=I.look
 refine PySem.W.set_plain X J hs (PySem.W.osa_open (s:={ s with toks:=s.toks+1 }) (r:=none) X J hp Y fun b=>?_)
 obtain⟨cd,U,d⟩:=PySem.W.any_some P
 have hx:s.heap.get? x=some ⟨.ref C,some dx,.plain,#[]⟩:=I.obj
 refine .f (.ah (.L (wpAny_bind (wpAny_loadPart hx (wpAny_bind (PySem.W.Looks.here (s:={ s with toks:=s.toks+1 }) (PySem.W.looks_clsIn X U) ?_))))))
 rw [d]
 refine wpAny_pure (a:=some dx) (.L (.ah (wpAny_bind ?_)))
 refine wpAny_nsSet1 (s:={ s with toks:=s.toks+1 }) I.ns fun h' t T=>?_
 obtain⟨k,i,j,c,e,g⟩:=t.count (PySem.Within.cons name v B)
 refine wpAny_bind (wpAny_lookBehind c (by rw [e];exact pastItsLine_dict (zaz g (by rw [zap];omega))) ?_)
 exact wpAny_pure (h _ ⟨(T.2 _ (Ne.symm I.ne)).trans I.obj,t,I.ne⟩ T)
theorem HA {R:.e4}{vs:.S}{kw:.ek}(X:K.In s.heap)(hm:PySem.W.makesIn K C=true)
  (hi:PySem.W.findIn K (.d C) "__init__" = some (.R f)) (hf:PySem.W.typeIn K (.d f)=some (.type "function"))
  (h:codeAny .O (A.under (.builtin "type.__call__" ⟨.ref C::vs,kw⟩)) (.call (.d f) ⟨.ref .ar::vs,kw⟩) (PySem.W.InitBack .ar R)
   { s with heap:=(s.heap.push PySem.W.emptyDict).push .ea }):
  codeAny .O A (.call (.d C) ⟨vs,kw⟩) R s:=by
 obtain⟨P,g,d,t,os⟩:=s
 exact PySem.W.make_core (PySem.W.makes_of X hm) (PySem.W.looks_findIn X hi) (fun self=>PySem.W.bind_fn X self hf) .bc h
end
noncomputable def km (f:Str)(v:V):List (Str×V)->List (Str×V)
 |[]=>[(f,v)]
 |(g,x)::r=>if g=f then (g,v)::r else (g,x)::km f v r
theorem qO (f g:Str)(v:V):∀fs:List (Str×V),(km f v fs).lookup g=if g=f then some v else fs.lookup g
 |[]=>by
  show List.lookup g [(f,v)]=_
  by_cases h:g=f
  ·have hb:(g == f)=true:=beq_iff_eq.mpr h
   simp only [List.lookup,hb,.jo]
  ·have hb:(g == f)=false:=beq_eq_false_iff_ne.mpr h
   simp only [List.lookup,hb,if_neg h]
 |(k,x)::r=>by
  have A:=qO f g v r
  rw [show km f v ((k,x)::r)=.fj from rfl]
  by_cases hk:k=f
  ·rw [if_pos hk]
   by_cases h:g=k
   ·have hb:(g == k)=true:=beq_iff_eq.mpr h
    simp only [List.lookup,hb,.al (h.trans hk)]
   ·have hb:(g == k)=false:=beq_eq_false_iff_ne.mpr h
    simp only [List.lookup,hb,if_neg (fun e:g=f=>h (e.trans hk.symm))]
  ·rw [if_neg hk]
   by_cases h:g=k
   ·have hb:(g == k)=true:=beq_iff_eq.mpr h
    simp only [List.lookup,hb,if_neg (fun e:g=f=>hk (h.symm.trans e))]
   ·have hb:(g == k)=false:=beq_eq_false_iff_ne.mpr h
    simp only [List.lookup,hb]
    exact A
theorem qa (f:Str)(v:V):∀fs:List (Str×V),f∈(km f v fs).map (·.1)/\∀g,g∈fs.map (·.1)->g∈(km f v fs).map (·.1)
 |[]=>⟨by simp [km],fun g h=>by simp at h⟩
 |(k,x)::r=>by
  obtain⟨i1,i2⟩:=qa f v r
  rw [show km f v ((k,x)::r)=.fj from rfl]
  by_cases hk:k=f
  ·rw [if_pos hk]
   subst hk
   exact⟨.f,fun g h=>by simpa using h⟩
  ·rw [if_neg hk]
   refine⟨?_,fun g h=>?_⟩
   ·rw [zaf]
    exact zad _ i1
   ·rw [zaf] at h ⊢
    rcases zao.mp h with e | e
    ·exact zao.mpr (.inl e)
    ·exact zad _ (i2 g e)
theorem qN (f:Str)(v:V):∀fs:List (Str×V),(km f v fs).length≤fs.length+1
 |[]=>by simp [km]
 |(k,x)::r=>by
  have A:=qN f v r
  rw [show km f v ((k,x)::r)=.fj from rfl]
  by_cases hk:k=f
  ·rw [if_pos hk,zap,zap];omega
  ·rw [if_neg hk,zap,zap];omega
theorem lI.some_of {v:V}{o:.dJ}(r:lI .cY o):∃u,o=some u/\RelV v u:=by
 cases o with
 |none=>exact (show False from r).elim
 |some u=>exact⟨u,rfl,r⟩
theorem lI.none_of {o:.dJ}(r:lI none o):o=none:=by
 cases o with
 |none=>rfl
 |some u=>exact (show False from r).elim
theorem Fe {v:V}{u:Value}(r:RelV v u):PySem.W.handedIn u=true:=by
 cases v with
 |non=>cases (show u=Value.none from r);rfl
 |bl b=>cases (show u=Value.bool b from r);rfl
 |int i=>obtain⟨t,e⟩:=(show ∃t,u=Value.int i t from r);cases e;rfl
 |str x=>obtain⟨t,e⟩:=(show ∃t,u=Value.str x t from r);cases e;rfl
 |byt b=>obtain⟨t,e⟩:=(show ∃t,u=Value.bytes b t from r);cases e;rfl
 |flt b=>obtain⟨t,e⟩:=(show ∃t,u=Value.float b t from r);cases e;rfl
 |ref a=>cases (show u=Value.ref a from r);rfl
 |ty n=>cases (show u=Value.type n from r);rfl
section
variable {P:.ai}{w:World}{H H':Hp}{h h':Heap}{a C dx:Addr}{fs fs':List (Str×V)}
theorem mT (hok:.e9)(e:.ii):∃mA,Bo h a dx C mA/\(∀f,lI (fs.lookup f) (mA f))/\PySem.Within mA (fs.map (·.1))/\fs.length≤1000/\H dx=some (.own a):=by
 obtain⟨d,z,ne,ob,mA,n,r,q⟩:=(show di P w H h a (.ar fs) from hok a _ e)
 exact⟨mA,⟨ob,n,ne⟩,r,q,z,d⟩
end
structure dE (K:.j)(C:Addr):Prop where
 pg:PySem.W.plainGet K C Str.empty=true
 hd:PySem.W.hasDictIn K C=true
 po:PySem.W.plainOver K C=true
 sa:PySem.W.findIn K (.d C) "__setattr__" = some (.aX (.builtin "object.__setattr__"))
theorem dE.get {K:.j}{C:Addr}(c:dE K C)(f:Str):PySem.W.plainGet K C f=true:=c.pg
def ba (K:.j)(C:Addr)(f:Str):Prop:=PySem.W.findIn K (.d C) f=some none
theorem ba.taker {K:.j}{C:Addr}{f:Str}(n:ba K C f):PySem.W.takerIn K C f=some none:=by
 unfold PySem.W.takerIn
 rw [show PySem.W.findIn K (.d C) f=some none from n]
 rfl
structure Meth (K:.j)(C:Addr)(m:Str)(f:Addr):Prop where
 at_:PySem.W.findIn K (.d C) m=some (.R f)
 fn:PySem.W.isFn K (.d f)=true
 kp:PySem.W.keepIn K (.d f)=true
section
variable {X:Cx}{pins:.s}{σ:St}{H:Hp}{s:Shared}{a C dx:Addr}{fs:List (Str×V)}{f:Str}{v:V}{A:Around}{E:.n}
theorem BL {b:Bool}{Q:.n}(I:.q)(e:.ii)(c:dE X.K C)(n:ba X.K C f)(l:fs.lookup f=some v)
  (h:∀u s',Inv X pins σ H s'->RelV v u->Q u s'):wpAny .o A (getAttr (.d a) f b) Q E s:=by
 obtain⟨mA,O,r,_,_,_⟩:=mT I.hok e
 obtain⟨u,hu,S⟩:=lI.some_of (v:=v) (o:=mA f) (by rw [<- l];exact r f)
 exact get_map I.kIn O (c.get f) c.hd n hu (Fe S) (h u _ (I.tok _) S)
theorem BM {m:Str}{g:Addr}{pl:Sem Bool}{Q:Value×List Value->Shared->Prop}(I:.q)(e:.ii)(c:dE X.K C)(k:Meth X.K C m g)(l:fs.lookup m=none)
  (h:Q (.ref g,[.ref a]) s):wpAny .o A (getMethod (.d a) m pl) Q E s:=by
 obtain⟨mA,O,r,_,_,_⟩:=mT I.hok e
 have hn:mA m=none:=lI.none_of (by rw [<- l];exact r m)
 exact G8 I.kIn O (c.get m) k.at_ k.fn hn h
theorem Cr {y:V}{u:Value}{Q:.dR}(I:.q)(e:.ii)(c:dE X.K C)(n:ba X.K C f)(hl:fs.length<1000)(S:RelV y u)
  (h:∀s',Inv X pins σ (.Y a (.ar (km f y fs))) s'->Q () s'):wpAny .o A (setAttr (.d a) f u) Q E s:=by
 obtain⟨mA,O,r,d,_,ho⟩:=mT I.hok e
 have hz:(fs.map (·.1)).length≤sizeLine:=by rw [zah,sizeLine_eq];omega
 refine KR I.kIn O c.sa c.po n.taker c.hd d hz fun h' i N=>h _ ?_
 have hd:∃o,h'.get? dx=some o:=let ⟨o,_,_,j,_⟩:=i.ns;⟨o,j⟩
 refine I.write (x:=a) (e:=dx) .d4 (.inr ho) (fun b q hb z=>(N.2 b hb).trans z) hd ?_
 refine⟨by rw [ay O.ne];exact ho,?_,O.ne,i.obj,_,i.ns,fun g=>?_,fun g L=>?_⟩
 ·have:=qN f y fs;omega
 ·show lI ((km f y fs).lookup g) (if g=f then some u else mA g)
  rw [qO]
  by_cases q:g=f
  ·rw [if_pos q,if_pos q];exact S
  ·rw [if_neg q,if_neg q];exact r g
 ·by_cases q:g=f
  ·rw [q];exact (qa f y fs).1
  ·refine (qa f y fs).2 g (d g fun z=>L ?_)
   show (if g=f then some u else mA g)=none
   rw [if_neg q];exact z
theorem Inv.made (I:.q):Inv X pins σ (upd (.J (.own .ar)) .ar (.ins C s.heap.objs.size []))
  { s with heap:=(s.heap.push PySem.W.emptyDict).push .ea }:=by
 have e1:(s.heap.push PySem.W.emptyDict).get? s.heap.objs.size=some PySem.W.emptyDict:=Heap.get?_push_size s.heap rfl
 have e2:((s.heap.push PySem.W.emptyDict).push .ea).get? .ar=some .ea:=by
  have:=Heap.get?_push_size (s.heap.push PySem.W.emptyDict) (o:=PySem.W.instObj C s.heap.objs.size) rfl
  rwa [Heap.size_push] at this
 have e3:(s.heap.push PySem.W.emptyDict).Ns s.heap.objs.size .ja:=⟨PySem.W.emptyDict,#[],_,e1,rfl,(fun e he=>absurd he .f),fun _=>rfl⟩
 have O:=I.laid (a:=s.heap.objs.size) (o:=.own .ar) (h':=s.heap.push PySem.W.emptyDict) (t':=s.toks) (fun b u q=> .bD) .bJ ⟨_,e1⟩
 refine O.laid (a:=s.heap.objs.size+1) (o:=.ins C s.heap.objs.size []) (t':=s.toks) (fun b u q=> .bD) (Nat.le_of_eq (Heap.size_push _ _)) ?_
 have ne:s.heap.objs.size≠s.heap.objs.size+1:=zas (zbf _)
 refine⟨by rw [ay ne,aF],zaU _,ne,e2,fun _=>none,(Heap.Ns1.of_empty e3).at fun o q=>Heap.get?_push_of_some _ q,fun _=>True.intro,fun y R=>absurd rfl R⟩
theorem Jq {prog:.ai}{w:World}{env:Env}{e:Expr}{f:Str}{pos:Pos}{s:Shared}{Q:.n}(hb:attributeBase e f env (eval e env)=eval e env)
  (h:wpAny .O A (eval e env) (fun o g=>wpAny .O A (getAttr o f true) Q E g) E s):wpAny .O A (eval (.Attribute e f pos) env) Q E s:=
 Attribute_any_ h (by rw [arm_eval_Attribute,hb])
end
noncomputable def S4 (K:.j)(ta:TE)(f:Str):TE:=fun σ H Q=>ta σ H fun x H1=>∃a C dx fs v,x=.ref a/\H1 a=some (.ar fs)/\dE K C/\ba K C f/\fs.lookup f=some v/\Q v H1
noncomputable def SR (K:.j)(ta tv:TE)(f:Str):TS:=fun D σ H=>tv σ H fun y H1=>ta σ H1 fun x H2=>∃a C dx fs,x=.ref a/\H2 a=some (.ar fs)/\dE K C/\ba K C f/\fs.length<1000 /\
 D.nx σ (upd H2 a (.ar (km f y fs)))
section
variable {X:Cx}{o e value:Expr}{f:Str}{pos pos' tpos:Pos}{ta tv:TE}
theorem MY (he:PE X e ta)(hb:attributeBase e f X.env (.V e)=eval e X.env):PE X (.Attribute e f pos) (S4 X.K ta f):=by
 intro pins s σ H Q I h
 refine Jq hb (cF .cS fun u s1 ⟨x,H1,O,N,a,C,dx,fs,v,ex,R,c,n,l,q⟩=>?_)
 subst ex
 obtain rfl:u=Value.ref a:=N
 exact BL O R c n l fun g s2 M S=>⟨v,H1,M,S,q⟩
theorem Nf (ha:PE X o ta)(Z:PE X value tv)(hs:swapsWith value (.aX (.Attribute o f pos')) pos.line X.env=pure false):PS X (.Assign [.Attribute o f pos'] value pos) (SR X.K ta tv f):=by
 intro pins s σ H D I h
 refine plainObj_wpAny_Assign_Attribute (cF (Z pins s σ H _ I h) fun u s1 ⟨y,H1,O,S,q⟩=>cF (ha pins s1 σ H1 _ O q) fun d s2 ⟨x,H2,M,N,a,C,dx,fs,ex,R,c,n,l,q2⟩=>?_) hs
 subst ex
 obtain rfl:d=Value.ref a:=N
 exact Cr M R c n l S fun b A=>⟨σ,_,A,q2⟩
end
section
variable {X:Cx}{pins:.s}{σ:St}{H:Hp}{s:Shared}{A:Around}{E:.n}{Q:.n}{c:Value}{b:Bool}
inductive qW (K:.j) (H:Hp):V->Value->Prop where
 |non:qW K H .non (.type "NoneType")
 |bl (x:Bool):qW K H (.bl x) (.type "bool")
 |int (i:Int):qW K H .eQ (.type "int")
 |str (x:Str):qW K H .fM (.type "str")
 |flt (x:UInt64):qW K H (.flt x) (.type "float")
 |lst {a:Addr} {xs:List V} (e:H a=some .cG):qW K H (.d a) (.type "list")
 |frz {a:Addr} {o:Obj} {xs:List V} (e:H a=some (.frz o .cG)):qW K H (.d a) (.type "list")
 |tup {a:Addr} {xs:List V} (e:H a=some .dZ):qW K H (.d a) (.type "tuple")
 |dK {a:Addr} {kvs:.bv} (e:H a=some .aF):qW K H (.d a) (.type "dict")
 |dT {a:Addr} {kvs:.ds} (e:H a=some (.dT kvs)):qW K H (.d a) (.type "dict")
 |ins {a C dx:Addr} {fs:List (Str×V)} (e:.ii) (cl:dE K C) (ha:PySem.W.findIn K (.d C) "__class__" = some (.aX .cZ))
   (hn:PySem.W.specialIn K .cZ "__get__" = some (.aX (.builtin "getset_descriptor.__get__"))) (htk:PySem.W.takesIn K .cZ=some true)
   (hm:PySem.W.mroIn K C (.type "object")=some true):qW K H (.d a) (.d C)
theorem Fl {x:V}{u t:Value}(I:.q)(N:RelV x u)(ty:qW X.K H x t)(e:PySem.W.kitOne X.K t c=some b)(h:∀tk,Q (.bool b) { s with toks:=tk }):
  wpAny .o A (call .d6 [u,c]) Q E s:=by
 cases ty with
 |non=>cases (show u=Value.none from N);exact zaJ PySem.W.kitx_none I.kIn True.intro e .a6 h
 |bl y=>cases (show u=Value.bool y from N);exact zaJ PySem.W.kitx_bool I.kIn True.intro e .a6 h
 |int i=>obtain⟨t,q⟩:=(show ∃t,u=Value.int i t from N);cases q;exact zaJ PySem.W.kitx_int I.kIn True.intro e .a6 h
 |str y=>obtain⟨t,q⟩:=(show ∃t,u=Value.str y t from N);cases q;exact zaJ PySem.W.kitx_str I.kIn True.intro e .a6 h
 |flt y=>obtain⟨t,q⟩:=(show ∃t,u=Value.float y t from N);cases q;exact zaJ PySem.W.kitx_float I.kIn True.intro e .a6 h
 |@lst a xs R =>
  cases (show u=Value.ref a from N)
  obtain⟨_,_,n,_,h1⟩:=(show di X.prog X.w H s.heap a .cG from I.hok a _ R)
  exact .ay zbq ⟨_,h1,rfl⟩
 |@frz a ob xs R =>
  cases (show u=Value.ref a from N)
  obtain⟨_,_,_,n,_,h1⟩:=(show di X.prog X.w H s.heap a (.frz ob .cG) from I.hok a _ R)
  exact .ay zbq ⟨_,h1,rfl⟩
 |@tup a xs R =>
  cases (show u=Value.ref a from N)
  obtain⟨_,_,_,p⟩:=(show di X.prog X.w H s.heap a .dZ from I.hok a _ R)
  obtain⟨o,h1,h2,_⟩:=p
  exact zaJ PySem.W.kitx_tuple I.kIn ⟨o,h1,h2⟩ e .a6 h
 |@dK a kvs R =>
  cases (show u=Value.ref a from N)
  obtain⟨_,_,vs,_,p⟩:=(show di X.prog X.w H s.heap a .aF from I.hok a _ R)
  obtain⟨o,es,ep,h1,h2,_⟩:=p
  exact .ay zbJ ⟨o,h1,h2.1⟩
 |@dT a kvs R =>
  cases (show u=Value.ref a from N)
  obtain⟨_,_,xs,_,o,es,ep,h1,h2,_⟩:=(show di X.prog X.w H s.heap a (.dT kvs) from I.hok a _ R)
  exact .ay zbJ ⟨o,h1,h2.1⟩
 |@ins a C dx fs R cl ha hn htk hm =>
  cases (show u=Value.ref a from N)
  obtain⟨mA,O,_⟩:=mT I.hok R
  obtain⟨od,J,_⟩:=O.look
  exact .ay (zbN (cl.get _) cl.hd ha hn htk hm) J
end
structure eG (k:Nat)(A:Around):Prop where
 hd:A.handled=none
 dp:A.depth+3*k+5<recursionLimit
 un:A.units+16*k+200<cLine
theorem eG.mono {j k:Nat}{A:Around}(r:eG k A)(h:j≤k):eG j A:=⟨r.hd,by have:=r.dp;omega,by have:=r.un;omega⟩
theorem eG.deeper {k:Nat}{A:Around}(r:eG (k+1) A)(env:Env):eG k (A.deeper env):=
 ⟨r.hd,by have:=r.dp;show A.depth+1+3*k+5<_;omega,by have:=r.un;show A.units+3+16*k+200<_;omega⟩
theorem Ca {A:Around}{C:Addr}{us:.S}{kw:.ek}:(A.under .c1).depth=A.depth+1:=by
 first | rfl | simp [Around.under,Code.weight,Code.isCreation,Code.isGuard,Code.isCaller,Code.frames,Code.isFrame,guardIds]
theorem Cb {A:Around}{C:Addr}{us:.S}{kw:.ek}:(A.under .c1).units=A.units+1:=by
 first | rfl | simp [Around.under,Code.cUnits,Code.frames,Code.isFrame]
theorem eG.make {k:Nat}{A:Around}(r:eG (k+1) A)(C:Addr)(us:.S)(kw:.ek):eG k (A.under .c1):=
 ⟨r.hd,by have:=r.dp;rw [Ca];omega,by have:=r.un;rw [Cb];omega⟩
theorem eG.depth {k:Nat}{A:Around}(r:eG k A):A.depth<recursionLimit:=by have:=r.dp;omega
theorem eG.units {k:Nat}{A:Around}(r:eG k A):A.units+64<cLine:=by have:=r.un;omega
def Qx:TA:=fun _ H Q=>Q [] H
def Qs (ta:TE)(tr:TA):TA:=fun σ H Q=>ta σ H fun x H1=>tr σ H1 fun xs H2=>Q (x::xs) H2
section
variable {X:Cx}{e:Expr}{es:.av}{te:TE}{t:TA}{pos:Pos}
theorem ue:PA X [] Qx:=fun _ _ _ _ H Q I h=>Calls.spliced_nil ⟨[],H,I,.nil,h⟩
theorem kl (ha:PE X e te)(hr:PA X es t)(hs:starEach (e::es) X.env=(.p e)::starEach es X.env:=by rfl):PA X (e::es) (Qs te t):=by
 intro pos pins s σ H Q I h
 rw [hs]
 show .a8 (spliced ((.p e)::backTo pos .bm))
 refine Calls.spliced_cons (cF .a7 fun u s1 .cM=>?_)
 exact cF (hr pos pins s1 σ H1 _ O q1) fun us s2 ⟨xs,H2,M,r2,q2⟩=>⟨x::xs,H2,M,.cons r1 r2,q2⟩
noncomputable def Te (t:TA):TE:=fun σ H Q=>t σ H fun xs H1=>xs.length≤sizeLine/\∀p,H1 p=none->Q (.d p) (upd H1 p .dZ)
noncomputable def S7 (t:TA):TE:=fun σ H Q=>t σ H fun xs H1=>xs.length≤sizeLine/\∀p,H1 p=none->Q (.d p) (upd H1 p .cG)
theorem M7 {J}(h:PA X es t):PE X (.Tuple es J pos) (Te t):=by
 intro pins s σ H Q I hq
 refine wpAny_Tuple_spliced (cF (h pos pins s σ H _ I hq) fun us s1 ⟨xs,H1,O,r,z,q⟩=>⟨by rw [<- r.length];exact z,?_⟩)
 have hf:H1 s1.heap.objs.size=none:=O.hok.fresh .bJ
 refine⟨.ref s1.heap.objs.size,upd H1 s1.heap.objs.size .dZ,O.laid (t':=s1.toks) (fun b u e=> .cH) .bJ ?_,rfl,q _ hf⟩
 exact⟨z,us,r,⟨_,.ac,rfl,_,rfl⟩⟩
theorem Iq (h:PA X es t):PE X (.List es pos) (S7 t):=by
 intro pins s σ H Q I hq
 refine wpAny_List_spliced (cF (h pos pins s σ H _ I hq) fun us s1 ⟨xs,H1,O,r,z,q⟩=>⟨by rw [<- r.length];exact z,?_⟩)
 have hf:H1 s1.heap.objs.size=none:=O.hok.fresh .bJ
 refine⟨.ref s1.heap.objs.size,upd H1 s1.heap.objs.size .cG,O.laid (t':=s1.toks) (fun b u e=> .cH) .bJ ?_,rfl,q _ hf⟩
 exact⟨z,us,0,r,Heap.get?_push_size _ rfl⟩
end
abbrev Sp:=List V->Hp->VK->XK->Prop
abbrev Ex:=List Env->Hp->Shared->XK->Value->Shared->Prop
structure Bl (P:.ai)(w:World)(K:.j)(mg:.G)(base:Heap)(A:Around)(outer:.e6)(s:Shared)(H:Hp):Prop where
 frames:A.frames=some outer
 mod:Mod K mg base
 bs:∀b o,base.get? b=some o->s.heap.get? b=some o/\H b=none
 bsz:base.objs.size≤s.heap.objs.size
 funs:s.heap.FunFrames base outer
 frf:∀b∈wm outer,H b=none
 hok:lF P w H s.heap
 bare:AllBare s.gens
noncomputable def CE (outer:.e6)(P:.ai)(w:World)(H:Hp)(s:Shared)(Q:VK)(u:Value)(s':Shared):Prop:=
 ∃v H',s'.os=s.os/\AllBare s'.gens/\Un (wm outer) [] H H' s.heap s'.heap/\lF P w H' s'.heap/\RelV v u/\Q v H'
noncomputable def CR (CX:Ex)(outer:.e6)(P:.ai)(w:World)(H:Hp)(s:Shared)(Q:VK)(E:XK)(r:Result)(s':Shared):Prop:=
 match r with
 | .ok (.ret u)=>CE outer P w H s Q u s'
 | .ok _=>False
 | .error e=>CX outer H s E e s'
structure iO (P:.ai)(w:World)(K:.j)(mg:.G)(base:Heap)(CX:Ex)(k:Nat)(f:Addr)(fd:.e7)(ps:.U)(sp:Sp):Prop where
 len:∀vs H Q E,sp vs H Q E->vs.length=ps.length
 run:∀(A:Around) (outer:.e6) (s:Shared) (H:Hp) (args:Args) (us:.S) (vs:List V) (Q:VK) (E:XK),eG k A->Bl P w K mg base A outer s H->BindsTo s fd args (ps.zip us)->Vals vs us->sp vs H Q E ->
  codeAny .gG A (.call (.d f) args) (CR CX outer P w H s Q E) s
theorem iO.mono {P:.ai}{w:World}{K:.j}{mg:.G}{base:Heap}{CX:Ex}{j k:Nat}{f:Addr}{fd:.e7}{ps:.U}{sp:Sp}(F:iO P w K mg base CX j f fd ps sp)(h:j≤k):
  iO P w K mg base CX k f fd ps sp:=⟨F.len,fun A outer s H args us vs Q E hr=>F.run A outer s H args us vs Q E (hr.mono h)⟩
theorem iO.imp {P:.ai}{w:World}{K:.j}{mg:.G}{base:Heap}{CX:Ex}{k:Nat}{f:Addr}{fd:.e7}{ps:.U}{sp a:Sp}(F:iO P w K mg base CX k f fd ps sp)
  (h:∀vs H Q E,a vs H Q E->sp vs H Q E):iO P w K mg base CX k f fd ps a:=
 ⟨fun vs H Q E q=>F.len vs H Q E (h _ _ _ _ q),fun A outer s H args us vs Q E hr he hb Z hs=>F.run A outer s H args us vs Q E hr he hb Z (h _ _ _ _ hs)⟩
theorem Bl.make {P:.ai}{w:World}{K:.j}{mg:.G}{base:Heap}{A:Around}{outer:.e6}{s:Shared}{H:Hp}(e:Bl P w K mg base A outer s H)(C:Addr)(us:.S)(kw:.ek):
  Bl P w K mg base (A.under .c1) outer s H:=⟨by first | exact e.frames | (simpa [Around.under,Code.envs,Code.isFrame,pushEnvs] using e.frames),e.mod,e.bs,e.bsz,e.funs,e.frf,e.hok,e.bare⟩
section
variable {X:Cx}{pins:.s}{σ:St}{H:Hp}{s s':Shared}
theorem Inv.env0 (I:.q):Bl X.prog X.w X.K X.mg X.base X.A X.stack s H:=
 ⟨I.ok.frames,I.ok.mod,I.bs,zaz I.ok.bsz I.sz,I.stack,I.stkFree,I.hok,I.bare⟩
theorem Inv.after {Q:VK}{u:Value}(I:.q)(h:CE X.stack X.prog X.w H s Q u s'):EP X pins σ Q u s':=by
 obtain⟨v,H',os,bare,un,hok,r,q⟩:=h
 obtain⟨P,g,d,t,a⟩:=s'
 obtain rfl:a=s.os:=os
 exact⟨v,H',I.call (h':=P) (g':=g) (d':=d) (t':=t) (ch:=[]) un hok bare (fun b z=>absurd z .f),r,q⟩
end
def Qr (sp:Sp)(dvs:List V)(E:XK)(t:TA):TE:=fun σ H Q=>t σ H fun vs H1=>sp (vs++dvs) H1 Q E
noncomputable def LP (C:Addr)(m:Str)(sp:Sp)(dvs:List V)(E:XK)(ta:TE)(t:TA):TE:=fun σ H Q=>ta σ H fun x H1=>∃a dx fs,x=.ref a/\H1 a=some (.ar fs)/\fs.lookup m=none /\
 t σ H1 fun vs H2=>sp (x::(vs++dvs)) H2 Q E
noncomputable def Qv (C:Addr)(sp:Sp)(dvs:List V)(E:XK)(t:TA):TE:=fun σ H Q=>t σ H fun vs H1=>∀x dx,H1 x=none->H1 dx=none->dx≠x ->
 sp (.ref x::(vs++dvs)) (.O H1 x) (fun v H2=>v=.non/\Q (.d x) H2) E
noncomputable def Binds (K:.j)(fd:.e7)(ps:.U)(ds:.S):Prop:=
 ∀(s:Shared) (us:.S),K.In s.heap->(us++ds).length=ps.length->BindsTo s fd ⟨us,[]⟩ (ps.zip (us++ds))
theorem Binds.all {K:.j}{fd:.e7}{ps:.U}(h:∀us:List Value,us.length=ps.length->bindArgs fd ⟨us,[]⟩=pure (ps.zip us)):Binds K fd ps []:=fun s us _ hl=>by
 rw [zaw] at hl ⊢
 exact .of_eq (h us hl)
noncomputable def Passes (CX:Ex)(X:Cx)(E:XK):Prop:=∀(pins:.s) (σ:St) (H:Hp) (s:Shared) (e:Value) (s':Shared),Inv X pins σ H s->CX X.stack H s E e s'->X.xe e s'
section
variable {X:Cx}{CX:Ex}{k:Nat}{f C:Addr}{fd:.e7}{ps:.U}{sp:Sp}{dvs:List V}{ds:.S}{E:XK}{x m:Str}{p pos apos:Pos}{e o:Expr}{es:.av}{ta:TE}{t:TA}
theorem IE {pins:.s}{σ:St}{H:Hp}{s:Shared}{Q:VK}{us:.S}{vs:List V}(F:.bX)(hr:eG k X.A)(hb:.hM)(hd:Vals dvs ds)(hx:Passes CX X E)
  (I:.q) (r:Vals vs us) (h:sp (vs++dvs) H Q E):wpAny .o X.A (call (.d f) us) .bR X.xe s:=by
 have r2:Vals (vs++dvs) (us++ds):=r.append hd
 have hl:(us++ds).length=ps.length:=by rw [<- r2.length];exact F.len _ _ _ _ h
 refine wpAny_call (codeAny_mono (F.run X.A X.stack s H ⟨us,[]⟩ (us++ds) (vs++dvs) Q E hr I.env0 (hb s us I.kIn hl) r2 h) fun r s' hq=>?_)
 cases r with
 |error e=>exact hx pins σ H s e s' I hq
 |ok fl =>
  cases fl with
  |ret u=>exact I.after hq
  |next=>exact False.elim hq
  |brk=>exact False.elim hq
  |cont=>exact False.elim hq
theorem DW (F:.bX)(hr:eG k X.A)(L:Gl X x)(hm:X.mg x=some (.d f))(hk:PySem.W.keepIn X.K (.d f)=true)(hb:.hM)(hd:Vals dvs ds)(hx:Passes CX X E)
  (ha:PA X (e::es) t) (G:.M=false:=by decide) (he:starEach (e::es) X.env=(.p e)::starEach es X.env:=by rfl) (l:(backTo pos .bm).any (·.1)=false:=by rfl):
  PE X .aP (Qr sp dvs E t):=by
 intro pins s σ H Q I h
 refine wpAny_Call_Name_kw (oV I L hm ?_ G)
 refine PySem.W.callWith_K (h₀:=X.base) I.ok.mod.kin hk (cF .ew fun us s1 ⟨vs,H1,O,r,q⟩=>⟨O.kIn,?_⟩) he l
 exact IE F hr hb hd hx O r q
theorem AI {pl:Sem Bool}(he:PE X o ta)(c:dE X.K C)(hm:Meth X.K C m f)(F:.bX)(hr:eG k X.A)(hb:.hM)(hd:Vals dvs ds)(hx:Passes CX X E)
  (Y:eval .bG X.env=(do
   let Z <- eval o X.env
   standAt apos.atName
   let (f,first) <- holding [Z] (getMethod Z m pl)
   callWith pos f first (backTo pos .gF) (backToKw pos .cR)):=by rfl):
  PE X .bG (LP C m sp dvs E ta Qx):=by
 intro pins s σ H Q I h
 refine PySem.W.methodCall_KW (pl:=pl) (cF .cS fun u s1 ⟨x,H1,O,N,a,dx,fs,ex,R,l,q⟩=>?_) Y
 subst ex
 obtain rfl:u=Value.ref a:=N
 refine BM O R c hm l ?_
 exact PySem.W.callWith_K0 (first:=[.ref a]) O.kIn hm.kp (IE (us:=[.ref a]) (vs:=[.ref a]) F hr hb hd hx O (.aD rfl) q)
structure Mk (K:.j)(C f:Addr):Prop where
 makes:PySem.W.makesIn K C=true
 init:PySem.W.findIn K (.d C) "__init__" = some (.R f)
 fn:PySem.W.isFn K (.d f)=true
 kp:PySem.W.keepIn K (.d C)=true
theorem IF {pins:.s}{σ:St}{H:Hp}{s:Shared}{Q:VK}{us:.S}{vs:List V}(M:Mk X.K C f)(F:.bX)(hr:eG (k+1) X.A)(hb:.hM)(hd:Vals dvs ds)
  (hx:Passes CX X E) (I:.q) (r:Vals vs us)
  (h:∀x dx,H x=none->H dx=none->dx≠x->sp (.ref x::(vs++dvs)) (.O H x) (fun v H2=>v=.non/\Q (.d x) H2) E):
  wpAny .o X.A (call (.d C) us) .bR X.xe s:=by
 have hq:=h .ar s.heap.objs.size (I.hok.fresh (zbL _)) .ge (zas (zbf _))
 have c:=Inv.made (C:=C) I
 have r2:Vals (V.ref .ar::(vs++dvs)) (Value.ref .ar::(us++ds)):=.cons rfl (r.append hd)
 have hl:(Value.ref .ar::us++ds).length=ps.length:=by
  have e:=r2.length
  rw [F.len _ _ _ _ hq] at e
  exact e.symm
 refine wpAny_call (HA (f:=f) I.kIn M.makes M.init (beq_iff_eq.mp M.fn) (codeAny_mono (F.run _ X.stack _ _ ⟨Value.ref .ar::us,[]⟩ (Value.ref .ar::(us++ds)) _ _ E (hr.make C us [])
  (c.env0.make C us []) (hb _ (Value.ref .ar::us) c.kIn hl) r2 hq) fun r s' a=>?_))
 cases r with
 |error e=>exact hx pins σ _ _ e s' c a
 |ok fl =>
  cases fl with
  |ret u =>
   obtain⟨v,H',A,j,ev,q3⟩:=c.after a
   subst ev
   exact⟨j,⟨V.ref .ar,H',A,rfl,q3⟩⟩
  |next=>exact False.elim a
  |brk=>exact False.elim a
  |cont=>exact False.elim a
theorem Ku (M:Mk X.K C f)(F:.bX)(hr:eG (k+1) X.A)(L:Gl X x)(hm:X.mg x=some (.d C))(hb:.hM)(hd:Vals dvs ds)(hx:Passes CX X E)
  (ha:PA X (e::es) t) (G:.M=false:=by decide) (he:starEach (e::es) X.env=(.p e)::starEach es X.env:=by rfl) (l:(backTo pos .bm).any (·.1)=false:=by rfl):
  PE X .aP (Qv C sp dvs E t):=by
 intro pins s σ H Q I h
 refine wpAny_Call_Name_kw (oV I L hm ?_ G)
 refine PySem.W.callWith_K (h₀:=X.base) I.ok.mod.kin M.kp (cF .ew fun us s1 ⟨vs,H1,O,r,q⟩=>⟨O.kIn,?_⟩) he l
 exact IF M F hr hb hd hx O r q
end
section
variable {X:Cx}{CX:Ex}{k:Nat}{f C:Addr}{fd:.e7}{ps ks:.U}{sp:Sp}{E:XK}{x m:Str}{p pos apos kpos:Pos}{e o:Expr}{es:.av}{kws:List Keyword}{te ta:TE}{t tk:TA}{nm:Option Str}
variable {g:List Value->List Value->List Value}{gV:List V->List V->List V}
end
structure aG (N P:.U)(sc:Scope):Prop where
 kind:sc.kind=.function
 co:sc.isCoroutine=false
 gen:sc.isGenerator=false
 nd:N.Nodup
 pre:N.take P.length=P
 par:∀x∈P,sc.names.lookup x=some .local\/sc.names.lookup x=some .cell
 nofree:∀y∈sc.names,y.2≠.free
theorem vU {kindOf:.ji}{x:Str}:∀{binds:.ek} {m:.G},(∀v,(x,v)∉binds)->bindL kindOf binds m x=m x
 |[],_,_=>rfl
 |(n,v)::r,m,h=>by
  unfold bindL
  rw [vU fun w B=>h w (zad _ B)]
  split
  ·have:x≠n:=by rintro rfl;exact h v zae
   simp [this]
  ·rfl
theorem vS {kindOf:.ji}{x:Str}:∀{binds:.ek} {m:.G},(∀v,(x,v)∉binds)->bindC kindOf binds m x=m x
 |[],_,_=>rfl
 |(n,v)::r,m,h=>by
  unfold bindC
  rw [vS fun w B=>h w (zad _ B)]
  split
  ·rfl
  ·have:x≠n:=by rintro rfl;exact h v zae
   simp [this]
theorem vT {kindOf:.ji}{x:Str}{v:Value}:∀{P:.U} {vs:.S} {i:Nat} {m:.G},P.Nodup->P[i]? = some x->vs[i]? = some v->kindOf x=some .local ->
  bindL kindOf (P.zip vs) m x=some v
 |[],_,_,_,_,h,_,_=>by simp at h
 |_::_,[],_,_,_,_,h,_=>by simp at h
 |p::P,w::vs,0,m,nd,h1,h2,hk=>by
  simp at h1 h2;subst h1;subst h2
  show bindL kindOf ((p,w)::P.zip vs) m p=_
  unfold bindL
  rw [vU fun v Z=>(zaB.mp nd).1 (zby Z).1,if_pos hk]
  simp
 |p::P,w::vs,i+1,m,nd,h1,h2,hk=>by
  show bindL kindOf ((p,w)::P.zip vs) m x=_
  unfold bindL
  exact vT (i:=i) (List.nodup_cons.mp nd).2 (by simpa using h1) (by simpa using h2) hk
theorem vR {kindOf:.ji}{x:Str}{v:Value}:∀{P:.U} {vs:.S} {i:Nat} {m:.G},P.Nodup->P[i]? = some x->vs[i]? = some v->kindOf x≠some .local ->
  bindC kindOf (P.zip vs) m x=some v
 |[],_,_,_,_,h,_,_=>by simp at h
 |_::_,[],_,_,_,_,h,_=>by simp at h
 |p::P,w::vs,0,m,nd,h1,h2,hk=>by
  simp at h1 h2;subst h1;subst h2
  show bindC kindOf ((p,w)::P.zip vs) m p=_
  unfold bindC
  rw [vS fun v Z=>(zaB.mp nd).1 (zby Z).1,if_neg hk]
  simp
 |p::P,w::vs,i+1,m,nd,h1,h2,hk=>by
  show bindC kindOf ((p,w)::P.zip vs) m x=_
  unfold bindC
  exact vR (i:=i) (List.nodup_cons.mp nd).2 (by simpa using h1) (by simpa using h2) hk
def start (N:.U)(vs:List V):St:=vs.map some++List.replicate (N.length-vs.length) none
noncomputable def sP (CX:Ex)(P:.ai)(w:World)(K:.j)(mg:.G)(base:Heap)(N:.U)(qual:Str)(scope:Scope)(f:Addr)(m:Value)(A:Around)(outer:.e6)(s:Shared)(H:Hp)(E:XK):Cx where
 prog:=P
 w:=w
 K:=K
 mg:=mg
 base:=base
 A:=A.deeper (.aA m)
 N:=N
 Y8:=s
 Y9:=H
 env:=envOfC qual scope s.heap.objs.size f m
 outer:=outer
 stack:=envOfC qual scope s.heap.objs.size f m::outer
 ex:=[]
 calm:=true
 fn:=fun _=>true
 pn:=[]
 xe:=fun e s'=>wpAny .gG (A.deeper (.aA m)) (leaving (.aA m) e) (fun _ V=>CX outer H s E e V) (fun j V=>CX outer H s E j V) s'
theorem zx {sc:Scope}{n:Nat}{x:Str}(h:sc.names.lookup x=some .cell):∃c,(cellsFrom n sc.names []).lookup x=some c:=by
 have q:=PySem.W.cellsFrom_some sc.names n [] (.inl h)
 exact Option.isSome_iff_exists.mp q
theorem Fi {CX:Ex}{P:.ai}{w:World}{K:.j}{mg:.G}{base:Heap}{N ps:.U}{qual:Str}{scope:Scope}{f:Addr}{m:Value}{A:Around}{outer:.e6}{s s1:Shared}{H:Hp}{E:XK}{us:.S}{vs:List V}
  (S:aG N ps scope) (hd:A.handled=none) (O:Bl P w K mg base A outer s H) (hl:vs.length=ps.length) (r:Vals vs us)
  (x:InCallC s s.heap.objs.size (bindL (envOfC qual scope s.heap.objs.size f m).kindOf (ps.zip us) fun _=>none) (cellsFrom .ar scope.names []) (bindC (envOfC qual scope s.heap.objs.size f m).kindOf (ps.zip us) fun _=>none) s1):
  Inv (sP CX P w K mg base N qual scope f m A outer s H E) [] (start N vs) H s1:=by
 have l:ps.length≤N.length:=by have:=congrArg List.length S.pre;rw [zba] at this;omega
 obtain⟨h1,tk,rfl,hk⟩:=x.done
 have t:∀b:Addr,b∉(sP CX P w K mg base N qual scope f m A outer s H E).ex:=fun b z=>absurd (show b∈([]:List Addr) from z) .f
 refine⟨⟨O.mod,S.kind,rfl,rfl,zam _,fun y z c h1 h2=>?_,fun y R=>?_,fun y c _ h=>?_,fun _=>hd,Around.frames_deeper O.frames,.inr ⟨rfl,rfl⟩,fun b z=>absurd z (t b),O.bs,O.bsz,fun b _ _=>t b,fun b z=>absurd z (t b),O.funs,O.frf⟩,
  rfl,O.bare,Un.kept hk,⟨_,x.toInCall.ns,fun i y v h1 h2 M=>?_⟩,fun y c h=>⟨_,x.cell y c h⟩,O.hok.fresh (Nat.le_refl _),fun y c h=>?_,fun p hp=>absurd (show p∈([]:List (Addr×Obj)) from hp) .f,O.hok.kept hk,?_⟩
 ·exact name_of_addr x.apart (zaC h1) (zaC h2)
 ·have R:scope.names.lookup y=some .cell\/scope.names.lookup y=some .free:=R
  rcases R with R | R
  ·exact zx R
  ·exact absurd rfl (S.nofree _ (zaC R))
 ·exact zbF (x.above y c (zaC h))
 ·have hi:i<vs.length:=by
   unfold start at h2
   by_cases hi:i<vs.length
   ·exact hi
   ·rw [List.getElem?_append_right .dA] at h2
    rw [List.getElem?_replicate] at h2
    split at h2<;>cases h2
  have ha:vs[i]? = some v:=by
   unfold start at h2
   rw [List.getElem?_append_left .dA,List.getElem?_map] at h2
   cases e:vs[i]? with
   |none=>rw [e] at h2;cases h2
   |some a=>rw [e] at h2;cases h2;rfl
  obtain⟨u,hu,j⟩:=r.get ha
  have hp:ps[i]? = some y:=by
   rw [<- S.pre,List.getElem?_take_of_lt .d];exact h1
  have d:ps.Nodup:=by rw [<- S.pre];exact S.nd.sublist (List.take_sublist _ _)
  refine⟨u,j,?_⟩
  rcases S.par y (zbk hp) with k | k
  ·exact .inl ⟨k,vT d hp hu k⟩
  ·obtain⟨c,e⟩:=zx (n:=s.heap.objs.size+1) k
   refine .a1 ⟨.inl k,c,e,?_⟩
   have q:=x.cell y c e
   rw [vR d hp hu (by show scope.names.lookup y≠_;rw [k];decide)] at q
   exact q
 ·exact O.hok.fresh (zbF (x.above y c (zaC h)))
 ·unfold start
  show _=N.length
  rw [zaj,zah,zbb]
  omega
theorem OY {CX:Ex}{P:.ai}{w:World}{K:.j}{mg:.G}{base:Heap}{k:Nat}{f:Addr}{name qual:Str}{params:Arguments}{body:.a4}{scope:Scope}{h kV doc pm cdv ct oc:Value}{an od:.dr}
  {osl:Array (Option Value)} {N ps:.U} {sp:Sp} (g:K.lookup f=some ⟨oc,od,.func (PySem.W.fnOf name qual params body scope h kV doc pm an cdv ct),osl⟩) (p:PySem.W.codeIn K cdv qual=true) (S:aG N ps scope)
  (len:∀vs H Q E,sp vs H Q E->vs.length=ps.length)
  (a:∀(A:Around) (outer:.e6) (s:Shared) (H:Hp) (vs:List V) (Q:VK) (E:XK),eG k (A.deeper (.aA cdv))->sp vs H Q E ->
   ∃t,lj .dV body t/\t { nx:=fun _ H'=>Q .non H',rt:=Q } (start N vs) H):
  iO P w K mg base CX (k+1) f (PySem.W.fnOf name qual params body scope h kV doc pm an cdv ct) ps sp:=by
 refine⟨len,fun A outer s H args us vs Q E hr O hb r c=>?_⟩
 have hl:=len _ _ _ _ c
 have B:K.In s.heap:=O.mod.kin.keeps fun b o e=>(O.bs b o e).1
 have lim:s.heap.NoLimit:=O.mod.nolimit.keeps fun b o e=>(O.bs b o e).1
 have d:∀y∈ps.zip us,scope.names.lookup y.1=some .local\/(scope.names.lookup y.1=some .cell/\((cellsFrom .ar scope.names []).lookup y.1).isSome=true):=fun⟨n,v⟩ R=>by
  rcases S.par n (zby R).1 with q | q
  ·exact .inl q
  ·exact .a1 ⟨q,PySem.W.cellsFrom_some _ _ _ (.inl q)⟩
 refine codeAny_call_function hr.depth (B _ _ g) rfl S.co S.gen rfl (PySem.W.codeRec_of B p) (hb _ _ _ _ ?_)
 refine wpAny_newFunctionEnv_cells S.kind d fun env he s1 x=>?_
 subst he
 refine⟨lim.keeps x.toInCall.keep,codeAny_func ?_⟩
 obtain⟨t,Y,hq⟩:=a A outer s H vs Q E (hr.deeper _) c
 have I:Inv .dV [] (start N vs) H s1:=Fi S hr.hd O hl r x
 refine wpAny_mono (Y [] s1 (start N vs) H _ I hq) (fun fl s' hs=>?_) fun e s' hs=>hs
 have fin:∀{σ':St} {H':Hp} {v:V} {u:Value},Inv .dV [] σ' H' s'->RelV v u->Q v H'->CE outer P w H s Q u s':=
  fun {σ' H' v u} J j q=>⟨v,H',J.os,J.bare,J.base,J.hok,j,q⟩
 cases fl with
 |ret u =>
  obtain⟨v,σ',H',J,j,q⟩:=hs
  exact fin J j q
 |next =>
  obtain⟨σ',H',J,q⟩:=hs
  exact fin (v:=V.non) (u:=Value.none) J rfl q
 |brk =>
  obtain⟨_,_,_,q⟩:=hs
  exact False.elim q
 |cont =>
  obtain⟨_,_,_,q⟩:=hs
  exact False.elim q
section
variable {X:Cx}{x:Str}{p pos:Pos}{e:Expr}{es:.av}{t:TA}{id T:String}{r:.jj}
def TC (r:.jj)(t:TA):TE:=fun σ H Q=>t σ H fun vs H1=>r vs H1 Q
theorem AH (U:fR X .d5 r)(L:Gl X x)(hm:X.mg x=none)(Z:bootBuiltins x=some .d5)(ha:PA X (e::es) t)(hn:x≠"__name__" := by decide)(G:.M=false:=by decide)
  (he:starEach (e::es) X.env=(.p e)::starEach es X.env:=by rfl) (l:(backTo pos .bm).any (·.1)=false:=by rfl):PE X .aP (TC r t):=by
 intro pins s σ H Q I h
 refine wpAny_Call_Name_kw (qb I L hm Z ?_ hn G)
 exact PyProof.Rows.callWith_builtin1 (cF .ew fun us s1 .jq=>U pins s1 σ H1 vs us Q O r1 q1) he l
theorem Fw (U:fR X (.type T) r)(L:Gl X x)(hm:X.mg x=none)(Z:bootBuiltins x=some (.type T))(ha:PA X (e::es) t)(hn:x≠"__name__" := by decide)(G:.M=false:=by decide)
  (he:starEach (e::es) X.env=(.p e)::starEach es X.env:=by rfl) (l:(backTo pos .bm).any (·.1)=false:=by rfl):PE X .aP (TC r t):=by
 intro pins s σ H Q I h
 refine wpAny_Call_Name_kw (qb I L hm Z ?_ hn G)
 exact za7 (cF .ew fun us s1 .jq=>U pins s1 σ H1 vs us Q O r1 q1) he l
end
end L2
namespace HT
open PySem PyProof.Rows
section
open PySem.SeqAt
open PySem.AutoSeq1 (wpAny_loadPart')
open PySem.MeetsSeq PySem.MeetsSeq2 PySem.MeetsSeq3
end
section
variable {prog:.ai}{w:World}{A:Around}{E:.n}{s:Shared}
theorem Jr {t b:Addr}{vs ws:.S}{Q:.n}(Y:IsTup s.heap t vs.toArray)(hb:IsTup s.heap b ws.toArray)(Z:vs≠[])
  (h1:ws=[]->Q (.d t) s) (h2:ws≠[]->Q .b5 { s with heap:=s.heap.push { cls:=.type "tuple", data:=.seq (vs++ws).toArray } })
  (hsz:vs.length+ws.length≤sizeLine):wpAny .O A (binaryOp .Add (.d t) (.d b)) Q E s:=by
 obtain⟨⟨cls,dd,data,sl⟩,ho,U,n,hd⟩:=id Y
 obtain⟨⟨c,i,data2,g⟩,a,d,C,hd2⟩:=id hb
 simp only at U hd d hd2
 subst U hd d hd2
 have e:vs.toArray++ws.toArray=(vs++ws).toArray:=.f
 by_cases hw:ws=[]
 ·exact concat_meets ⟨_,ho,rfl⟩ ⟨_,a,rfl⟩ noFill_tuple_add seq_tuple_add PySem.F.slot_tuple_add PySem.F.entry_tuple_add (PySem.F.args_tuple_add_2 _ _)
   (tuple_addW1 t b vs.toArray ws.toArray n C dd i sl g (by simpa using Z) (by simp [hw])) ⟨ho,a,h1 hw⟩
 ·refine concat_meets ⟨_,ho,rfl⟩ ⟨_,a,rfl⟩ noFill_tuple_add seq_tuple_add PySem.F.slot_tuple_add PySem.F.entry_tuple_add (PySem.F.args_tuple_add_2 _ _)
   (tuple_addW2 t b vs.toArray ws.toArray n C dd i sl g (by simpa using Z) (by simpa using hw) (by rw [List.size_toArray,List.size_toArray];exact hsz)) ⟨ho,a,?_⟩
  rw [e]
  exact h2 hw
noncomputable def gc (n d:Nat):Option Int->Nat
 |none=>d
 |some v=>if v<0 then (v+(n:Int)).toNat else min v.toNat n
theorem AX (n d:Nat):gc n d none=d:=rfl
theorem rT (n d k:Nat):gc n d (some (k:Int))=min k n:=by
 show (if (k:Int)<0 then ((k:Int)+(n:Int)).toNat else min (k:Int).toNat n)=min k n
 rw [if_neg .d,zaQ]
theorem Nq (n d:Nat)(hd:d≤n)(o:.fa):gc n d o≤n:=by
 cases o with
 |none=>exact hd
 |some v =>
  show (if v<0 then (v+(n:Int)).toNat else min v.toNat n)≤n
  by_cases Z:v<0
  ·rw [if_pos Z];omega
  ·rw [if_neg Z];exact Nat.min_le_right _ _
theorem C2 (v:Int)(n d:Nat):(if v<0 then max (v+(n:Int)) 0 else min v (n:Int))=((gc n d .cY:Nat):Int):=by
 show (if v<0 then max (v+(n:Int)) 0 else min v (n:Int))=(((if v<0 then (v+(n:Int)).toNat else min v.toNat n):Nat):Int)
 by_cases Z:v<0
 ·simp only [if_pos Z];omega
 ·simp only [if_neg Z];omega
theorem Br (lo hi:.fa)(n:Nat):Builtin.Slice.sliceAdjust lo hi 1 (n:Int)=(.iD,((gc n n hi:Nat):Int)):=by
 have h1:¬ ((1:Int)<0):=.d
 unfold Builtin.Slice.sliceAdjust
 simp only [h1,if_false]
 refine Prod.ext ?_ ?_
 ·cases lo with
  |none=>rfl
  |some v=>exact C2 v n 0
 ·cases hi with
  |none=>rfl
  |some v=>exact C2 v n n
theorem Ck (i j:Nat):Builtin.Slice.slicePlaces (i:Int) (j:Int) 1=j-i:=by
 unfold Builtin.Slice.slicePlaces
 have h1:(1:Int)>0:=.d
 simp only [h1,if_true,Int.ediv_one]
 split<;>omega
theorem uw {v:Value}{o:.fa}{Q:Option Int->Shared->Prop}(p:IsPart v o)(h:Q o s):wpAny .O A (Builtin.Slice.slicePartIndex v) Q E s:=by
 cases p with
 |none=>exact slicePart_none h
 |int i t=>exact slicePart_int h
theorem qx {sl:Addr}{c d:Value}{lo hi:.fa}{n:Nat}{Q:Int×Int×Nat->Shared->Prop}(hs:s.heap.IsSliceOf sl c d .none)(pl:IsPart c lo)(f:IsPart d hi)
  (h:Q (.iD,1,gc n n hi-gc n 0 lo) s):wpAny .O A (Builtin.Slice.sliceApplied (.d sl) (pure (n:Int))) Q E s:=by
 obtain⟨os,b,i,e⟩:=id hs
 unfold Builtin.Slice.sliceApplied Builtin.Slice.sliceFields
 refine .f (.L (wpAny_field b e (x:=c) rfl (wpAny_bind (wpAny_field b e (x:=d) rfl (wpAny_bind (wpAny_field b e (x:=.none) rfl .b7))))))
 refine .f (slicePart_none ?_)
 show .a8 (if ((1:Int) == 0)=true then _ else _)
 rw [if_neg .e]
 refine .f (uw pl (.L (uw f (wpAny_bind .b7))))
 show wpAny _ _ (match Builtin.Slice.sliceAdjust lo hi 1 (n:Int) with | (lo,hi)=>pure (lo,(1:Int),Builtin.Slice.slicePlaces lo hi 1)) _ _ s
 rw [Br lo hi n]
 show .a8 (pure (.iD,(1:Int),Builtin.Slice.slicePlaces .iD ((gc n n hi:Nat):Int) 1))
 rw [Ck]
 exact wpAny_pure h
theorem Iy (xs:.cP)(i k:Nat):((List.range k).filterMap fun (m:Nat)=>xs[((i:Int)+(m:Int)*1).toNat]?).toArray=((xs.toList.drop i).take k).toArray:=by
 have e:(fun (m:Nat)=>xs[((i:Int)+(m:Int)*1).toNat]?)=fun m=>xs[i+m]?:=by
  funext m
  have:((i:Int)+(m:Int)*1).toNat=i+m:=.d
  rw [this]
 rw [e]
 have:=pick_run xs i k
 rw [List.filterMap_map] at this
 have e2:((fun x=>xs[x]?) ∘ fun x=>i+x)=fun m=>xs[i+m]?:=rfl
 rw [e2] at this
 rw [this]
theorem oU {t sl:Addr}{items:.cP}{c d:Value}{lo hi:.fa}{Q:.n}(Y:IsTup s.heap t items)(hs:s.heap.IsSliceOf sl c d .none)(pl:IsPart c lo)(f:IsPart d hi)
  (B:¬ (gc items.size 0 lo=0/\gc items.size items.size hi=items.size))
  (h:Q .b5 { s with heap:=s.heap.push { cls:=.type "tuple", data:=.seq ((items.toList.drop (gc items.size 0 lo)).take .eH).toArray } })
  (hsz:items.size≤sizeLine):wpAny .O A (getItem (.d t) (.d sl)) Q E s:=by
 have a:sizeOk (.seq ((items.toList.drop (gc items.size 0 lo)).take .eH).toArray):=by
  show ((items.toList.drop (gc items.size 0 lo)).take .eH).toArray.size≤sizeLine
  rw [zaE,zba,zbg,zbz]
  omega
 have P:gc items.size items.size hi≤items.size:=Nq _ _ .bJ hi
 obtain⟨os,b,i,e⟩:=id hs
 have j:s.TypeIs (.d sl) "slice" := ⟨os,b,i⟩
 unfold getItem
 try with_reducible refine wpAny_holding ?_
 first | refine wpAny_bind .b7 | skip
 refine .f (wpAny_sequenceKey Y.typeIs .e ?_)
 refine wpAny_bind (wpAny_callSpecial?_slot (name:=Str.ofString "__getitem__") Y.typeIs zbr
  (wpAny_call_entry zbr Y.typeIs entry_tuple_getitem ?_ (args_tuple_getitem _ _)))
 show .a8 (Builtin.Tuple.tupleItemsOf (.d t) >>= _)
 refine .f (tupleItemsOf_ Y ?_)
 refine .f (wpAny_typeOf j ?_)
 rw [if_pos .e]
 refine .f (qx hs pl f ?_)
 have g:¬ ((.iE == 0&&(1:Int) == 1&&(gc items.size items.size hi-gc items.size 0 lo) == items.size)=true):=by
  intro q
  rw [zbO,zbO] at q
  have q1:.iE=0:=eq_of_beq q.1.1
  have q2:gc items.size items.size hi-gc items.size 0 lo=items.size:=eq_of_beq q.2
  exact B ⟨.d,.d⟩
 show .a8 (if (.iE == 0&&(1:Int) == 1&&(gc items.size items.size hi-gc items.size 0 lo) == items.size)=true then _ else _)
 rw [if_neg g,Iy]
 first
  |exact wpAny_bind (m:=Builtin.Tuple.tupleExact _) (wpAny_newObj_type (.ah .gQ) a)
  |exact wpAny_bind (m:=Builtin.Tuple.tupleExact _) (wpAny_newObj_type (.f (.ah (wpAny_pure .gQ))) a)
  |exact wpAny_bind (wpAny_bind (m:=Builtin.Tuple.tupleExact _) (wpAny_newObj_type (.ah (wpAny_pure .gQ)) a))
  |exact wpAny_bind (wpAny_bind (m:=Builtin.Tuple.tupleExact _) (wpAny_newObj_type (.ah .gQ) a))
end
end HT
namespace L2
open PySem PySem.Spec PyProof.Rows
abbrev TO:=St->Hp->(Option Int->Hp->Prop)->Prop
noncomputable def PO (X:Cx)(e:Option Expr)(t:TO):Prop:=
 ∀(pins:.s) (s:Shared) (σ:St) (H:Hp) (Q:Option Int->Hp->Prop),Inv X pins σ H s->t σ H Q ->
  wpAny .o X.A (evalPart e X.env) (fun u s'=>∃o H',Inv X pins σ H' s'/\IsPart u o/\Q o H') X.xe s
def K9:TO:=fun _ H Q=>Q none H
def QA (t:TE):TO:=fun σ H Q=>t σ H fun x H1=>∃i,x=.int i/\Q (.aX i) H1
section
variable {X:Cx}{e:Expr}{te:TE}{lo hi:Option Expr}{tl th:TO}{pos p2:Pos}
theorem Kz:PO X none K9:=by
 intro pins s σ H Q I h
 rw [evalPart_none]
 exact wpAny_pure ⟨none,H,I,.none,h⟩
theorem KA (h:PE X e te):PO X (.aX e) (QA te):=by
 intro pins s σ H Q I B
 rw [evalPart_some]
 refine cF (h pins s σ H _ I B) fun u s1 .cM=>?_
 obtain⟨i,rfl,q⟩:=q1
 obtain⟨t,rfl⟩:=r1
 exact⟨some i,H1,O,.int i t,q⟩
noncomputable def Lj (X:Cx)(r:.dI):Prop:=
 ∀(pins:.s) (s:Shared) (σ:St) (H:Hp) (x:V) (v c d:Value) (lo hi:.fa) (sl:Addr) (Q:VK),Inv X pins σ H s->RelV x v->s.heap.IsSliceOf sl c d .none->IsPart c lo->IsPart d hi->r x lo hi H Q ->
  ∃T id,typeLookup (.type T) "__getitem__" = pure (.aX .d5)/\s.TypeIs v T/\wpAny .o X.A (getItem v (.d sl)) .bR X.xe s
theorem Lj.or {r Y:.dI}(h:Lj X r)(h':Lj X Y):Lj X (fun x lo hi H Q=>r x lo hi H Q\/Y x lo hi H Q):=by
 intro pins s σ H x v c d lo hi sl Q I N hs pl f q
 rcases q with q | q
 ·exact h pins s σ H x v c d lo hi sl Q I N hs pl f q
 ·exact h' pins s σ H x v c d lo hi sl Q I N hs pl f q
noncomputable def Uv (r:.dI)(te:TE)(tl th:TO):TE:=fun σ H Q=>te σ H fun x H1=>tl σ H1 fun l H2=>th σ H2 fun u H3=>r x l u H3 Q
theorem Ir {r:.dI}(hr:Lj X r)(he:PE X e te)(hl:PO X lo tl)(hu:PO X hi th):PE X (.X e (.Slice lo hi none p2)) (Uv r te tl th):=by
 intro pins s σ H Q I h
 refine Subscript_ (.l .cS)
 refine wpAny_Slice (cF (hl pins s1 σ H1 _ O q1) fun c s2 ⟨l,H2,M,pl,q2⟩=>cF (hu pins s2 σ H2 _ M q2) fun d C ⟨u,H3,A,pu,q3⟩=>?_)
 rw [evalPart_none]
 refine wpAny_pure ?_
 have t:Inv X pins σ H3 { C with heap:=C.heap.push { cls:=.type "slice", data:=.fields #[c,d,.none] } }:=A.kept (t':=C.toks) fun b ob q=>Heap.get?_push_of_some _ q
 obtain⟨T,id,a,Y,L⟩:=hr pins { C with heap:=C.heap.push { cls:=.type "slice", data:=.fields #[c,d,.none] } } σ H3 x v c d l u C.heap.objs.size Q t r1 (Heap.IsSliceOf.new ..) pl pu q3
 show wpAny .o X.A (subscriptTail e (.Slice lo hi none p2) v (.ref C.heap.objs.size)) .bR X.xe { C with heap:=C.heap.push { cls:=.type "slice", data:=.fields #[c,d,.none] } }
 exact tail_any (ops:=[.ref C.heap.objs.size,v]) Y a L (by with_unfolding_all rfl)
def sO (xs:List V)(lo hi:.fa):List V:=(xs.drop .hT).take .cA
theorem qI (xs:List V)(lo hi:.fa):(sO xs lo hi).length≤xs.length:=by
 unfold sO
 rw [zba,zbg]
 omega
noncomputable def SF (K:.j):V->Option Int->Option Int->Hp->VK->Prop:=fun x lo hi H Q=>∃a xs,x=.ref a/\mQ K H a xs /\
 ¬ (HT.gc xs.length 0 lo=0/\HT.gc xs.length xs.length hi=xs.length)/\∀p,H p=none->Q (.d p) (.Y p (.tup (sO xs lo hi)))
theorem NC:Lj X (SF X.K):=by
 intro pins s σ H x v c d lo hi sl Q I N hs pl f h
 obtain⟨a,xs,rfl,hx,hw,q⟩:=h
 cases N
 obtain⟨G,r,Y,hz⟩:=I.tuple hx
 have hlen:G.toArray.size=xs.length:=by rw [zaE];exact r.length.symm
 refine⟨"tuple", _,zbr.lookup,Y.typeIs,?_⟩
 refine HT.oU Y hs pl f (by rw [hlen];exact hw) ?_ (by rw [hlen];exact hz)
 rw [hlen]
 refine⟨.ref s.heap.objs.size,_,I.laid (t':=s.toks) (o:=.tup (sO xs lo hi)) (fun b ob q=> .bD) .bJ ?_,rfl,q _ .ge⟩
 exact⟨zaz (qI xs lo hi) hz,_,(r.drop .hT).take .cA,IsTup.new _ _⟩
noncomputable def P9 (K:.j):R2:=fun x y H Q=>∃a b xs ys,x=.ref a/\y=.ref b/\mQ K H a xs/\mQ K H b ys/\xs≠[]/\xs.length+ys.length≤sizeLine /\
 (ys=[]->Q (.d a) H)/\(ys≠[]->∀p,H p=none->Q (.d p) (.Y p (.tup (xs++ys))))
theorem Vals.nil_iff {xs:List V}{us:.S}(r:Vals xs us):us=[] ↔ xs=[]:=by
 cases r with
 |nil=>simp
 |cons _ _=>simp
theorem Kk:pS X .hA (P9 X.K):=by
 intro pins s σ H x y v u Q I N S h
 obtain⟨a,b,xs,ys,rfl,rfl,ha,hb,hx,hz,q1,q2⟩:=h
 cases N
 cases S
 obtain⟨G,r1,p1,_⟩:=I.tuple ha
 obtain⟨c,r2,p2,_⟩:=I.tuple hb
 refine HT.Jr p1 p2 (fun z=>hx (r1.nil_iff.mp z)) (fun z=>⟨.ref a,H,I,rfl,q1 (r2.nil_iff.mp z)⟩) (fun z=>?_) (by rw [<- r1.length,<- r2.length];exact hz)
 refine⟨.ref s.heap.objs.size,_,I.laid (t':=s.toks) (o:=.tup (xs++ys)) (fun b ob q=> .bD) .bJ ?_,rfl,q2 (fun w=>z (r2.nil_iff.mpr w)) _ .ge⟩
 exact⟨by rw [zaj];exact hz,_,r1.append r2,IsTup.new _ _⟩
end
noncomputable def Oj (n:Nat)(i:Int):Option Nat:=if 0≤i then (if i<n then some i.toNat else none) else if -(n:Int)≤i then some (i+n).toNat else none
def zj {α:Type}(xs:List α)(i:Int):Option α:=(Oj xs.length i).bind fun j=>xs[j]?
theorem JY {n:Nat}{i:Int}{j:Nat}(h:Oj n i=some j):seqIndex? i n=some j/\j<n /\ -(n:Int)≤i/\i<n:=by
 unfold Oj at h
 by_cases h0:0≤i
 ·rw [if_pos h0] at h
  by_cases h1:i<n
  ·rw [if_pos h1] at h
   have e:i.toNat=j:=zaN h
   exact⟨by rw [seqIndex_of h0 h1,e],.d,.d,h1⟩
  ·rw [if_neg h1] at h;cases h
 ·rw [if_neg h0] at h
  by_cases h1 : -(n:Int)≤i
  ·rw [if_pos h1] at h
   have e:(i+n).toNat=j:=zaN h
   exact⟨by rw [seqIndex_neg .d h1,e],.d,h1,.d⟩
  ·rw [if_neg h1] at h;cases h
theorem w6 {α:Type}{xs:List α}{i:Int}{v:α}(h:zj xs i=some v):∃j,seqIndex? i xs.length=some j/\xs[j]? = some v/\j<xs.length /\ -(xs.length:Int)≤i/\i<xs.length:=by
 unfold zj at h
 cases e:Oj xs.length i with
 |none=>rw [e] at h;cases h
 |some j =>
  rw [e] at h
  obtain⟨h1,h2,M,D⟩:=JY e
  exact⟨j,h1,h,h2,M,D⟩
theorem rG {α:Type}{xs:List α}{j:Nat}{v:α}(h:xs[j]? = some v):zj xs (j:Int)=some v:=by
 have P:j<xs.length:=(zar.mp h).1
 have e:Oj xs.length (j:Int)=some j:=by
  unfold Oj
  rw [if_pos .d,if_pos .d];simp
 unfold zj;rw [e];exact h
def CV (b:Expr):Prop:=∀o i,subscripted b false o i=operate [o,i] (getItem o i)
noncomputable def N0 (X:Cx)(r:R2):Prop:=
 ∀(value slice:Expr) (pins:.s) (s:Shared) (σ:St) (H:Hp) (x y:V) (v u:Value) (Q:VK),Inv X pins σ H s->RelV x v->RelV y u->r x y H Q ->
  subscripted slice false v u=operate [v,u] (getItem v u)->wpAny .o X.A (subscriptTail value slice v u) .bR X.xe s
noncomputable def Ow (X:Cx)(id:String)(r:.fw):Prop:=
 ∀(pins:.s) (s:Shared) (σ:St) (H:Hp) (x:V) (xs:List V) (v:Value) (us:.S) (Q:VK),Inv X pins σ H s->RelV x v->Vals xs us->r x xs H Q ->
  wpAny .o X.A (call .d5 (v::us)) .bR X.xe s
section
variable {X:Cx}{a b:Expr}{ta tb:TE}{pos:Pos}
theorem PZ {r:R2}(hr:N0 X r)(ha:.f5)(hb:PE X b tb)(hs:CV b):PE X (.X a b) (Qz r ta tb):=by
 intro pins s σ H Q I h
 exact Subscript_ (L3 ha hb I h fun v u s2 x y H2 M N S q=>hr a b pins s2 σ H2 x y v u Q M N S q (hs _ _))
def Sw (K:.j):R2:=fun x y H Q=>∃p xs i v,x=.ref p/\y=.int i/\gE K H p xs/\zj xs i=some v/\Q v H
def Sy (K:.j):R2:=fun x y H Q=>∃p xs i v,x=.ref p/\y=.int i/\mQ K H p xs/\zj xs i=some v/\Q v H
noncomputable def Sx:R2:=fun x y H Q=>∃z i c,x=.str z/\y=.int i/\z.length≤sizeLine/\zj z.cps.toList i=some c/\Q (.str ⟨#[c]⟩) H
theorem DD:N0 X (Sw X.K):=by
 intro value slice pins s σ H x y v u Q I N S h hs
 obtain⟨p,xs,i,z,rfl,rfl,hq,he,q⟩:=h
 cases N
 obtain⟨t,rfl⟩:=S
 obtain⟨G,r,pl,hz⟩:=I.list hq
 obtain⟨j,h1,h2,M,D,R⟩:=w6 he
 obtain⟨w,A,c⟩:=r.get h2
 have hl:=r.length
 have hn:=qc
 have fin:EP X pins σ Q w s:=⟨z,H,I,c,q⟩
 by_cases h0:0≤i
 ·have P:i.toNat=j:=by
   rw [seqIndex_of h0 R] at h1
   exact zaN h1
  exact item_listR pl.isList h0 .d (by rw [P];simpa using A) fin hs
 ·have P:(i+(G.toArray.size:Int)).toNat=j:=by
   rw [seqIndex_neg .d D] at h1
   rw [zaE,<- hl]
   exact zaN h1
  exact subscriptTail_builtinR (x:=w) pl.isList.typeIs slot_list_getitem.lookup
   (wpAny_getItem_list_neg (Q:=fun r s'=>r=w/\EP X pins σ Q r s') pl.isList .d .gJ .d (by rw [P];simpa using A) ⟨rfl,fin⟩) hs
theorem Mz:N0 X (Sy X.K):=by
 intro value slice pins s σ H x y v u Q I N S h hs
 obtain⟨p,xs,i,z,rfl,rfl,hq,he,q⟩:=h
 cases N
 obtain⟨t,rfl⟩:=S
 obtain⟨G,r,pl,hz⟩:=I.tuple hq
 obtain⟨j,h1,h2,M,D,R⟩:=w6 he
 obtain⟨w,A,c⟩:=r.get h2
 have hl:=r.length
 have hn:=qc
 have fin:EP X pins σ Q w s:=⟨z,H,I,c,q⟩
 exact subscriptTail_builtinR (x:=w) pl.typeIs slot_tuple_getitem.lookup
  (getItem_tuple (j:=j) (Q:=fun r s'=>r=w/\EP X pins σ Q r s') pl .d .d (by rw [List.size_toArray,<- hl];exact h1) (by simpa using A) ⟨rfl,fin⟩) hs
theorem Mx:N0 X Sx:=by
 intro value slice pins s σ H x y v u Q I N S h hs
 obtain⟨z,i,c,rfl,rfl,hz,he,q⟩:=h
 obtain⟨t,rfl⟩:=N
 obtain⟨t',rfl⟩:=S
 obtain⟨j,h1,h2,M,D,R⟩:=w6 he
 have hl:z.cps.toList.length=z.length:=by simp [Str.length]
 rw [hl] at h1 D R
 have hn:=qc
 exact tail_any (typeIs_str s z t) slot_str_getitem.lookup (getItem_str (c:=c) (by
  have e1:decide (i < -(2^63:Int))=false:=.eK
  have e2:decide (i≥2^63)=false:=.eK
  rw [e1,e2,Bool.or_false]) (by rw [h1];simpa using h2) ⟨.str ⟨#[c]⟩,H,.hG,.ag,q⟩) hs
theorem yR (lo hi:.fa)(n:Nat):(sliceBounds lo hi none n).1=((HT.gc n 0 lo:Nat):Int)/\(sliceBounds lo hi none n).2.1=((HT.gc n n hi:Nat):Int)/\(sliceBounds lo hi none n).2.2=1:=by
 refine⟨?_,?_,rfl⟩
 ·cases lo with
  |none=>simp [sliceBounds,HT.gc]
  |some i =>
   simp only [sliceBounds,HT.gc,Option.getD_none,show (1:Int)>0 by decide,if_true]
   by_cases h:i<0
   ·simp only [h,if_true]<;>omega
   ·simp only [h,if_false]<;>omega
 ·cases hi with
  |none=>simp [sliceBounds,HT.gc]
  |some i =>
   simp only [sliceBounds,HT.gc,Option.getD_none,show (1:Int)>0 by decide,if_true]
   by_cases h:i<0
   ·simp only [h,if_true]<;>omega
   ·simp only [h,if_false]<;>omega
theorem vI (G:.S)(lo hi:.fa):slicePick G.toArray lo hi none=((G.drop (HT.gc G.length 0 lo)).take (HT.gc G.length G.length hi-HT.gc G.length 0 lo)).toArray:=by
 obtain⟨h1,h2,M⟩:=yR lo hi G.toArray.size
 unfold slicePick
 rw [h1,h2,M]
 simp only [sliceRange_one,pick_run,List.size_toArray]<;>rfl
noncomputable def SD (K:.j):V->Option Int->Option Int->Hp->VK->Prop:=fun x lo hi H Q=>∃a xs,x=.ref a/\gE K H a xs/\∀p,H p=none->Q (.d p) (.Y p (.lst (sO xs lo hi)))
theorem KZ:Lj X (SD X.K):=by
 intro pins s σ H x v c d lo hi sl Q I N hs pl f h
 obtain⟨a,xs,rfl,hx,q⟩:=h
 cases N
 obtain⟨G,r,Y,hz⟩:=I.list hx
 have hlen:=r.length
 refine⟨"list", _,slot_list_getitem.lookup,Y.isList.typeIs,?_⟩
 refine wpAny_getItem_list_slice Y.isList hs pl f .none .f ?_ .gJ
 rw [vI,<- hlen]
 refine⟨.ref s.heap.objs.size,_,I.laid (t':=s.toks) (o:=.lst (sO xs lo hi)) (fun b ob q=> .bD) .bJ ?_,rfl,q _ .ge⟩
 exact⟨zaz (qI xs lo hi) hz,_,0,(r.drop .hT).take .cA,Heap.get?_push_size _ rfl⟩
theorem xa:fR X .gz (fun xs H Q=>∃p ys,xs=[.ref p]/\(gE X.K H p ys\/mQ X.K H p ys)/\Q (.int ys.length) H):=by
 intro pins s σ H xs us Q I r h
 obtain⟨p,ys,rfl,hq,q⟩:=h
 obtain⟨u,rfl,N⟩:=vals1 r
 cases N
 have hn:=qc
 rcases hq with hq | hq
 ·obtain⟨G,Y,pl,hz⟩:=I.list hq
  have hlen:=Y.length
  exact Calls.call_len_list pl.isList .b8 ⟨.int ys.length,H,.hG,⟨s.toks+1,by rw [List.size_toArray,hlen]⟩,q⟩
 ·obtain⟨G,Y,pl,hz⟩:=I.tuple hq
  have hlen:=Y.length
  exact len_tuple pl .b8 ⟨.int ys.length,H,.hG,⟨s.toks+1,by rw [List.size_toArray,hlen]⟩,q⟩
theorem xb:fR X .gz (fun xs H Q=>∃z,xs=[.str z]/\z.length≤sizeLine/\Q (.int z.length) H):=by
 intro pins s σ H xs us Q I r h
 obtain⟨z,rfl,hz,q⟩:=h
 obtain⟨u,rfl,t,rfl⟩:=vals1 r
 have hn:=qc
 exact len_str .d ⟨.int z.length,H,.hG,.ag,q⟩
theorem fR.or {f:Value}{r Y:.jj}(h:fR X f r)(h':fR X f Y):fR X f (fun xs H Q=>r xs H Q\/Y xs H Q):=by
 intro pins s σ H xs us Q I rs q
 rcases q with q | q
 ·exact h pins s σ H xs us Q I rs q
 ·exact h' pins s σ H xs us Q I rs q
theorem xf:fR X (.type "list") (fun xs H Q=>∃p ys,xs=[.ref p]/\(gE X.K H p ys\/mQ X.K H p ys)/\∀l,H l=none->Q (.d l) (.Y l (.lst ys))):=by
 intro pins s σ H xs us Q I r h
 obtain⟨p,ys,rfl,hq,q⟩:=h
 obtain⟨u,rfl,N⟩:=vals1 r
 cases N
 have fin:∀(G:.S),Vals ys G->ys.length≤sizeLine->∀(h':Heap) (C:Nat),(∀b o',s.heap.get? b=some o'->h'.get? b=some o') ->
   h'.get? s.heap.objs.size=some { cls:=.type "list", dict:=none,data:=.seq G.toArray C,slots:=#[] }->EP X pins σ Q .b5 { s with heap:=h' }:=fun G Y hz h' C kp e =>
  ⟨.ref s.heap.objs.size,_,I.laid (t':=s.toks) kp .bJ (show di X.prog X.w _ h' _ (.lst ys) from ⟨hz,G,C,Y,e⟩),rfl,q _ .ge⟩
 rcases hq with hq | hq
 ·obtain⟨G,Y,pl,hz⟩:=I.list hq
  have hlen:=Y.length
  obtain⟨o,ho,U,n,hd⟩:=pl.isList
  exact call_list_seq p .bc ho U hd (fun h' C kp e=>fin G Y hz h' C kp e) .b8
 ·obtain⟨G,Y,pl,hz⟩:=I.tuple hq
  have hlen:=Y.length
  obtain⟨o,ho,U,n,hd⟩:=pl
  exact call_list_seq p (.inr rfl) ho U hd (fun h' C kp e=>fin G Y hz h' C kp e) .b8
theorem uR:fR X (.type "tuple") (fun xs H Q=>∃p ys,xs=[.ref p]/\((gE X.K H p ys/\∀l,H l=none->Q (.d l) (.Y l (.tup ys)))\/(mQ X.K H p ys/\Q (.d p) H))):=by
 intro pins s σ H xs us Q I r h
 obtain⟨p,ys,rfl,h⟩:=h
 obtain⟨u,rfl,N⟩:=vals1 r
 cases N
 rcases h with ⟨hq,q⟩ | ⟨hq,q⟩
 ·obtain⟨G,Y,pl,hz⟩:=I.list hq
  have hlen:=Y.length
  refine call_tuple_list pl.isList (fun h' kp=>?_) .b8
  have O:.bo:=I.kept (t':=s.toks) kp
  have M:Inv X pins σ (upd H h'.objs.size (.tup ys)) { s with heap:=h'.push { cls:=.type "tuple", data:=.seq G.toArray } }:=
   O.laid (t':=s.toks) (fun b o e=> .cH) .bJ (show di X.prog X.w _ _ _ (.tup ys) from ⟨hz,G,Y,IsTup.new _ _⟩)
  exact⟨.ref h'.objs.size,_,M,rfl,q _ (O.hok.fresh .bJ)⟩
 ·obtain⟨G,Y,pl,hz⟩:=I.tuple hq
  exact call_tuple_same pl ⟨.ref p,H,I,rfl,q⟩
noncomputable def Tf (K:.j)(T:String)(x:V)(H:Hp):Prop:=match x with
 | .str _=>T = "str"
 | .int _=>T = "int"
 | .ref p=>(T = "list"/\∃xs,gE K H p xs)\/(T = "tuple"/\∃o,K.lookup p=some o/\o.cls=.type "tuple"/\o.dict=none) \/
   (T = "dict"/\((∃kvs,H p=some .aF)\/∃kvs,H p=some (.dT kvs)))\/(T = "set"/\∃S n,H p=some (.set S n))
 |_=>False
theorem Jd {pins:.s}{σ:St}{H:Hp}{s:Shared}{T:String}{x:V}{v:Value}(I:.q)(r:RelV x v)(ty:Tf X.K T x H):
  s.TypeIs v T/\∀a,v=.ref a->∃ob,s.heap.get? a=some ob/\ob.dict=none:=by
 cases x with
 |str z =>
  obtain⟨t,rfl⟩:=r
  cases (show T = "str" from ty)
  exact⟨typeIs_str s z t,fun _ e=>nomatch e⟩
 |int i =>
  obtain⟨t,rfl⟩:=r
  cases (show T = "int" from ty)
  exact⟨typeIs_int s i t,fun _ e=>nomatch e⟩
 |ref p =>
  cases r
  rcases ty with ⟨rfl,xs,hq⟩ | ⟨rfl,o,hk,U,hd⟩ | ⟨rfl,hk⟩ | ⟨rfl,S,n,hk⟩
  ·obtain⟨G,_,pl,_⟩:=I.list hq
   refine⟨pl.isList.typeIs,fun a e=>?_⟩
   cases e
   obtain⟨o,n,e,c,hd,_⟩:=pl
   exact⟨o,e,hd⟩
  ·refine⟨⟨o,I.kIn p o hk,U⟩,fun a e=>?_⟩
   cases e
   exact⟨o,I.kIn _ o hk,hd⟩
  ·have z:∃o,s.heap.get? p=some o/\o.ExactDict:=by
    rcases hk with ⟨kvs,hk⟩ | ⟨kvs,hk⟩
    ·obtain⟨_,_,_,_,o,_,_,e,ex,_⟩:=I.hok p _ hk
     exact⟨o,e,ex⟩
    ·obtain⟨_,_,_,_,o,_,_,e,ex,_⟩:=I.hok p _ hk
     exact⟨o,e,ex⟩
   obtain⟨o,e,ex⟩:=z
   refine⟨⟨o,e,ex.1⟩,fun a e2=>?_⟩
   cases e2
   exact⟨o,e,ex.2.1⟩
  ·obtain⟨o,_,_,_,e,ex,_⟩:=I.hok p _ hk
   refine⟨⟨o,e,ex.1⟩,fun a e2=>?_⟩
   cases e2
   exact⟨o,e,ex.2.1⟩
 |_=>exact False.elim ty
def SY (K:.j)(T:String)(r:.fw)(to:TE):TE:=fun σ H Q=>to σ H fun x H1=>Tf K T x H1/\r x [] H1 Q
noncomputable def Up (K:.j)(T:String)(r:.fw)(to:TE)(t:TA):TE:=fun σ H Q=>to σ H fun x H1=>Tf K T x H1/\t σ H1 fun xs H2=>r x xs H2 Q
variable {o e:Expr}{es:.av}{to:TE}{t:TA}{name:Str}{apos cpos:Pos}{T id:String}{r:.fw}
theorem Ik (f:PlainAttrs T)(slot:Slot T name id)(k:.fv)(hm:Ow X id r)(ho:PE X o to)
  (C:attributeBase o name X.env (.V o)=eval o X.env:=by rfl) (n:.dh=true:=by rfl):PE X (.Call (.Attribute o name apos) [] [] cpos) (SY X.K T r to):=by
 intro pins s σ H Q I h
 refine wpAny_Call_method0_late C n (cF .hR fun v s1 ⟨x,H1,O,r1,ty,q1⟩=>?_)
 obtain⟨h1,h2⟩:=Jd O r1 ty
 exact⟨T,id,f,slot,k,h1,h2,Calls.callWith_builtin rfl (PySem.evalArgs_none (hm pins s1 σ H1 x [] v [] Q O r1 .nil q1))⟩
theorem Ij (f:PlainAttrs T)(slot:Slot T name id)(k:.fv)(hm:Ow X id r)(ho:PE X o to)(ha:PA X (e::es) t)
  (C:attributeBase o name X.env (.V o)=eval o X.env:=by rfl)
  (j:((backTo cpos (starEach (e::es) X.env)).all (fun x=>!x.1)&&(backToKw cpos .cR).all .gH
   && decide ((e::es).length+([]:List Keyword).length+(if ([]:List Keyword).isEmpty then 0 else 1)<30))=true:=by rfl)
  (n:.dh=true:=by rfl) (hs:starEach (e::es) X.env=(.p e)::starEach es X.env:=by rfl) (c:(backTo cpos .bm).any (·.1)=false:=by rfl):
  PE X (.Call (.Attribute o name apos) (e::es) [] cpos) (Up X.K T r to t):=by
 intro pins s σ H Q I h
 refine wpAny_Call_method_late C j n rfl (cF .hR fun v s1 ⟨x,H1,O,r1,ty,q1⟩=>?_)
 obtain⟨h1,h2⟩:=Jd O r1 ty
 refine⟨T,id,f,slot,k,h1,h2,?_⟩
 have hA:=ha cpos pins s1 σ H1 _ O q1
 rw [hs] at hA ⊢
 refine Calls.callWith_builtin (by show (false||(backTo cpos .bm).any (·.1))=false;rw [c]<;>rfl) (Calls.evalArgs_plain ?_)
 exact cF hA fun us s2 ⟨vs,H2,M,r2,q2⟩=>hm pins s2 σ H2 x vs v us Q M r1 r2 q2
/- xs.append(e),list.index on a d tuple .. are Ow facts of 06m -/
end
noncomputable def RQ (X:Cx)(id:String)(r:.fw):Prop:=
 ∀(pins:.s) (s:Shared) (σ:St) (H:Hp) (x:V) (xs:List V) (v:Value) (us:.S) (Q:VK),Inv X pins σ H s->RelV x v->Vals xs us->r x xs H Q ->
  wpAny .o X.A (call .d5 (v::us)) .bR X.xe s
theorem Vals.one:∀{x:V} {us:.S},Vals [x] us->∃u,us=[u]/\RelV x u
 |_,_,.cons r .nil=>⟨_,rfl,r⟩
theorem Vals.two:∀{x y:V} {us:.S},Vals [x,y] us->∃u v,us=[u,v]/\RelV x u/\RelV y v
 |_,_,_,.cons r (.aD q)=>⟨_,_,rfl,r,q⟩
theorem Vals.zero:∀{us:.S},Vals [] us->us=[]
 |_,.nil=>rfl
theorem Vals.reverse {xs:List V}{us:.S}(h:Vals xs us):Vals xs.reverse us.reverse:=by
 induction h with
 |nil=>exact .nil
 |cons r t A=>rw [zbs,zbs];exact Vals.append A (.aD r)
theorem Vals.rep {xs:List V}{us:.S}(h:Vals xs us):∀k:Nat,Vals (List.replicate k xs).flatten (List.replicate k us).flatten
 |0=>.nil
 |k+1=>by
  rw [zaH,zaH,zaR,zaR]
  exact Vals.append h (Vals.rep h k)
theorem foldl_rep (G:.S):∀(k:Nat) (acc:.S),
  List.foldl (fun J C=>J++C) acc.toArray (List.replicate k G.toArray)=(acc++(List.replicate k G).flatten).toArray
 |0,acc=>.f
 |k+1,acc=>by
  have e:acc.toArray++G.toArray=(acc++G).toArray:=.f
  have e2:(acc++G)++(List.replicate k G).flatten=acc++(List.replicate (k+1) G).flatten:=by
   rw [zaH,zaR,za5]
  rw [<- e2,<- foldl_rep G k (acc++G),<- e,zaH,List.foldl_cons]
section
variable {X:Cx}{pins:.s}{σ:St}{H:Hp}{s:Shared}{l b:Addr}{xs ys zs:List V}
theorem Inv.lset {G its':.S}{n:Nat}{f:Array Value->Array Value}{t':Nat}(I:.q)(g:H l=some .cG)
  (e:s.heap.get? l=some { cls:=.type "list", data:=.seq G.toArray n }) (hf:f G.toArray=its'.toArray) (Z:Vals ys its') (hz:ys.length≤sizeLine):
  Inv X pins σ (.Y l (.lst ys)) { s with heap:=s.heap.update l (Obj.mapSeq f),toks:=t' }:=by
 have q:=PySem.IsL.update e f
 rw [hf] at q
 refine I.write (x:=l) (e:=l) (by rw [g];exact trivial) .bc (fun i u hb hu=>(Heap.get?_update_other s.heap (Obj.mapSeq f) (.bf hb)).trans hu) ⟨_,q⟩ ?_
 exact⟨hz,its',_,Z,q⟩
theorem Inv.lnew {G:.S}{t':Nat}(I:.q)(Z:Vals ys G)(hz:ys.length≤sizeLine):
  Inv X pins σ (.J (.lst ys)) { s with heap:=s.heap.push { cls:=.type "list", data:=.seq G.toArray },toks:=t' }:=
 I.laid (fun _ _ q=> .bD) .bJ ⟨hz,G,0,Z,.ac⟩
theorem Inv.fresh (I:.q):.cF:=I.hok.fresh .bJ
theorem Inv.lstM (I:.q)(g:H l=some .cG):xs.length≤sizeLine/\∃(G:.S) (n:Nat),Vals xs G/\xs.length=G.length/\s.heap.get? l=some { cls:=.type "list", data:=.seq G.toArray n }:=by
 obtain⟨z,G,n,r,e⟩:=I.hok l _ g
 exact⟨z,G,n,r,r.length,e⟩
theorem HP {n:Nat}(h:n≤sizeLine):Builtin.List.listTooLong n=false:=by
 unfold Builtin.List.listTooLong
 exact .eK
end
section
variable {X:Cx}
noncomputable def KL:V->List V->Hp->VK->Prop:=fun x vs H Q=>∃l xs y,x=.ref l/\vs=[y]/\H l=some .cG/\xs.length<sizeLine/\Q .non (.Y l (.lst (xs++[y])))
theorem wA:RQ X "list.append" KL:=by
 intro pins s σ H x vs v us Q I N f h
 obtain⟨l,xs,y,rfl,rfl,g,hz,q⟩:=h
 cases N
 obtain⟨u,rfl,S⟩:=f.one
 obtain⟨z,G,n,r,hl,e⟩:=I.lstM g
 refine call_meets F.slot_list_append .i3 F.entry_list_append (F.args_list_append_2 _ _) (PySem.list_append l G.toArray n u (by rw [zaE];omega)) ⟨e,?_⟩
 refine⟨.non,_,I.lset (its':=G++[u]) g e .f (r.append (.aD S)) ?_,rfl,q⟩
 rw [zaj,zax]
 omega
noncomputable def Nm:V->List V->Hp->VK->Prop:=fun x vs H Q=>∃l xs,x=.ref l/\vs=[]/\H l=some .cG/\Q .non (.Y l (.lst []))
theorem HE:RQ X "list.clear" Nm:=by
 intro pins s σ H x vs v us Q I N f h
 obtain⟨l,xs,rfl,rfl,g,q⟩:=h
 cases N
 have u:=f.zero
 subst u
 obtain⟨z,G,n,r,hl,e⟩:=I.lstM g
 refine call_meets F.slot_list_clear .i3 F.entry_list_clear (F.args_list_clear_1 _) (AutoSeq1.list_clear_list_0 l G.toArray n (by rw [zaE];omega)) ⟨e,?_⟩
 exact⟨.non,_,I.lset (its':=[]) (ys:=[]) g e rfl .nil (zaU _),rfl,q⟩
noncomputable def Sv:R2:=fun x y H Q=>∃l b xs zs,x=.ref l/\y=.ref b/\H l=some .cG/\H b=some (.lst zs)/\xs.length+zs.length≤sizeLine/\∀p,H p=none->Q (.d p) (.Y p (.lst (xs++zs)))
theorem MN:pS X .hA Sv:=by
 intro pins s σ H x y v u Q I N S h
 obtain⟨l,b,xs,zs,rfl,rfl,g,hB,hz,q⟩:=h
 cases N
 cases S
 obtain⟨z,G,n,r,hl,e⟩:=I.lstM g
 obtain⟨D,c,C,r2,Q7,e2⟩:=I.lstM hB
 refine PySem.P.add_list e e2 ?_ (by rw [zaE,zaE];omega)
 have R:G.toArray++c.toArray=(G++c).toArray:=.f
 rw [R]
 exact⟨.ref _,_,I.lnew (t':=s.toks) (r.append r2) (by rw [zaj];omega),rfl,q _ I.fresh⟩
noncomputable def Sz:R2:=fun x y H Q=>∃l k xs,x=.ref l/\y=.int k/\H l=some .cG /\ -(2^63)≤k/\k<2^63/\xs.length*k.toNat≤sizeLine /\
 ∀p,H p=none->Q (.d p) (.Y p (.aw xs))
theorem len_rep {α:Type}(xs:List α)(k:Nat):(List.replicate k xs).flatten.length=k*xs.length:=by
 induction k with
 |zero=>simp
 |succ k A=>rw [zaH,zaR,zaj,A,Nat.succ_mul,Nat.add_comm]
theorem MQ:pS X (binaryOp .Mult) Sz:=by
 intro pins s σ H x y v u Q I N S h
 obtain⟨l,k,xs,rfl,rfl,g,h1,h2,hz,q⟩:=h
 cases N
 obtain⟨t,rfl⟩:=S
 obtain⟨z,G,n,r,hl,e⟩:=I.lstM g
 have hlen:G.toArray.size*k.toNat≤sizeLine:=by rw [zaE,<- hl];exact hz
 have K:¬ G.toArray.size*k.toNat>(2^63-1)/8:=by
  have:(sizeLine:Nat)≤(2^63-1)/8:=.e
  omega
 have c:¬ (!Builtin.List.listFitsIndex k)=true:=by
  rw [fitsIndex_both h1 h2]
  exact zaL
 have b:¬ Builtin.List.listTooLong (G.toArray.size*k.toNat)=true:=by
  rw [HP hlen]
  exact zaL
 have d:List.foldl (fun J C=>J++C) #[] (List.replicate (if G.toArray.isEmpty=true then 0 else k.toNat) G.toArray)=(List.replicate k.toNat G).flatten.toArray:=by
  have f0:∀m:Nat,List.foldl (fun J C=>J++C) #[] (List.replicate m G.toArray)=(List.replicate m G).flatten.toArray:=fun m=>by
   have:=foldl_rep G m []
   rw [zaO] at this
   exact this
  rw [f0]
  cases G with
  |nil=>simp
  |cons a Y=>rw [if_neg .f]
 refine wpAny_binaryOp_repeat_ref (T := "list") (U := "int") .e .i3 (fun s'=>typeIs_int s' k t) noFill_list_mul F.fills_int_mul F.slot_int_rmul repeat_list F.slot_int_index.lookup
  (call_meets F.slot_int_rmul (typeIs_int s k t) F.entry_int_rmul (F.args_int_rmul_2 _ _) (int___rmul___int_list k t l G.toArray n)
   ⟨e,rfl,.i3,call_meets F.slot_list_mul .i3 F.entry_list_mul (F.args_list_mul_2 _ _) (AutoListH.list___mul___list_int_3 l G.toArray n k t c K b) ⟨e,?_⟩⟩)
 rw [d]
 exact⟨.ref _,_,I.lnew (t':=s.toks) (r.rep k.toNat) (by rw [len_rep,Nat.mul_comm];exact hz),rfl,q _ I.fresh⟩
end
section
variable {prog:.ai}{w:World}{A:Around}{E:.n}{s:Shared}
end
section
variable {X:Cx}
end
end L2
namespace Att
open PySem PySem.W PySem.Calls PyProof.Rows
theorem rg {P:Params}{h:Heap}:∀(ns:.e5) (vs:.S),WellAll P h vs (ns.map WData.int)->IntsAre vs ns:=by
 intro ns
 induction ns with
 |nil =>
  intro vs w
  rw [List.map_nil] at w
  cases w
  exact .nil
 |cons n ns A =>
  intro vs w
  rw [zaf] at w
  cases w with
  |cons a b =>
   cases a
   exact .cons _ _ (A _ b)
theorem FC {l:OpenLaw}{n:Nat}(hn:l.most=some n){P:Params}{h:Heap}{args:List WData}{vals:.S}
  (b:l.row.toRowW.claim.pre args=true) (c:WellAll P h vals args):
  ∃a vs ns,vals=[Value.ref a]/\args=[WData.list (ns.map WData.int)]/\h.get? a=some { cls:=.type "list", data:=.seq vs.toArray }/\IntsAre vs ns/\ns.length≤n:=by
 have g:WShape.hasAll [] args [.list .int]=true:=(pre_splitW b).1
 have U:l.pre.holds [] { args:=args }=true:=(pre_splitW b).2
 obtain⟨d,r,rfl,h1,h2⟩:=hasAllW_cons g
 obtain rfl:=hasAllW_nil h2
 obtain⟨xs,rfl,M⟩:=hasW_list h1
 obtain⟨ns,rfl⟩:=items_int M
 have hlen:ns.length≤n:=by
  unfold OpenLaw.pre at U
  have D:(WTm.not (.lt (.lit (.int (n:Int))) (.len (.arg 0)))).holds [] { args:=[.list (ns.map .int)] }=true:=by
   have D:=(holds_andW U).1
   rw [hn] at D
   exact D
  have R:=condW_of D (w_not (w_lt w_lit (w_len_list (w_arg rfl))))
  rw [zah] at R
  refine Nat.le_of_not_lt fun q=>?_
  have G:(n:Int)<((ns.length:Nat):Int):=.d
  first
   |(rw [decide_eq_true G] at R;exact absurd R .e)
   |(simp at R;omega)
 cases c with
 |cons i K =>
  cases K
  cases i with
  |list ho f=>exact⟨_,_,ns,rfl,rfl,ho,rg ns _ f,hlen⟩
theorem Fy (l:OpenLaw)(args:List WData):l.row.toRowW.claim.post args .aq args=true:=
 postW_of (r:=l.row.toRowW) (X:=(true == true))
  (show WShape.has [] .aq .bool=true by first | rfl | decide | simp [WShape.has,WShape.arms,WShape.armsAll])
  (show (WTm.eq .res (.lit .aq)).value [] { args:=args,res:=some .aq,after:=args }=some (.bool (true == true)) from w_eq_bool (w_res rfl) w_lit) rfl
theorem zu {l:OpenLaw}{n:Nat}{q:.ai}{loose:.U}{XP:.ij}{z:World->Heap->Prop}{d:DefRec}
  (hn:l.most=some n) (i:d.params.defaults=[])
  (call:∀(w:World) (Y8 g:Shared) (mg mb:.G) (fa:Addr) (o:Obj) (pm m doc:Value) (a:Addr) (vs:.S) (ns:.e5),
   Ground q loose [] XP w Y8 mg mb g.heap->z w g.heap ->
   g.heap.get? fa=some o->o.data=.func (docDef d.name d.params d.body d.scope pm m doc)->g.heap.CodeRec m d.name->mg d.name=some (.d fa) ->
   g.heap.get? a=some { cls:=.type "list", data:=.seq vs.toArray }->IntsAre vs ns->ns.length≤n->g.gens = #[] ->
   codeAny (model l.prog w) callerA .hE .cq g):
  WalkO q loose XP z l.row.toRowW d [] .jz:=by
 intro w Y8 g mg mb G Y fa o pm m doc h kV ho hd p A y L args vals as b e k c s
 obtain rfl:h=.none:=Dflts.none A i
 obtain rfl:kV=.none:=Dflts.noKw A
 obtain⟨a,vs,ns,rfl,rfl,j,hints,hlen⟩:=FC hn b c
 refine enter_call (codeAny_mono (call w Y8 g mg mb fa o pm m doc a vs ns G Y ho (fd_plain hd) p y j hints hlen L) fun r s' hq=>?_)
 obtain⟨rfl,h2,M,D⟩:=hq
 exact⟨.inl ⟨.bool true,.bool true,[],rfl,fun _=>rfl,.bool true,Fy l _,fun _=>⟨List.Pairwise.nil,fun _ hm=>(nomatch hm)⟩⟩,h2,M,D⟩
section
variable {prog:.ai}{w:World}{A:Around}{E:.n}{s:Shared}{K:Frag}
end
end Att
namespace L2
open PySem PySem.Spec PyProof.Rows
theorem wV:∀{vs:.S} {ns:.e5},IntsAre vs ns->Vals .ic vs
 |_,_,.nil=>.nil
 |_,_,.cons n t h=>.cons ⟨t,rfl⟩ (wV h)
def LV (H:Hp):Prop:=∀b,H b=none\/∃o xs,H b=some (.frz o .cG)
theorem Hu {P:.ai}{w:World}{K:.j}{mg mb:.G}{CX:Ex}{k:Nat}{fa a:Addr}{fd:.e7}{x:Str}{sp:Sp}{g:Shared}{vs:.S}{ns:.e5}
  (B:K.In g.heap) (C:g.heap.Ns mainGlobals mg) (hb:g.heap.Ns builtinsNs mb) (l:∀x:Str,x≠"__name__"->mb x=bootBuiltins x) (E:g.heap.NoLimit) (L:g.gens = #[])
  (ha:g.heap.get? a=some { cls:=.type "list", data:=.seq vs.toArray }) (hi:IntsAre vs ns) (hl:ns.length≤sizeLine) (hr:eG k callerA)
  (F:∀base:Heap,K.In base->base.Ns mainGlobals mg->iO P w K mg base CX k fa fd [x] sp) (y:∀(s:Shared) (u:Value),BindsTo s fd ⟨[u],[]⟩ [(x,u)])
  (c:∀H:Hp,LV H->gE K H a .ic->sp [.ref a] H (fun v _=>v=.bl true) fun _ _ _=>False)
  (A:∀H e s',CX [] H g (fun _ _ _=>False) e s'->False):
  codeAny .gG callerA .hE .cq g:=by
 have f:=wV hi
 have I:=hi.length
 have core:∀H:Hp,LV H->gE K H a .ic->lF P w H g.heap->(∀b,H b≠none->b=a)->(H a≠none->K.lookup a=none) ->
   codeAny .gG callerA .hE .cq g:=by
  intro H hO hS hok hA T
  have i:∀{b:Addr} {o:Obj},g.heap.get? b=some o->H b=none->(xH g.heap H).get? b=some o:=fun e n=>Hg e n
  have t:∀{b:Addr} {o:Obj} {es:Array DictEntry} {ep:Nat},g.heap.get? b=some o->o.data=.dict es ep->H b=none:=fun {b o es ep} e d=>by
   cases q:H b with
   |none=>rfl
   |some u =>
    have j:b=a:=hA b (by rw [q];simp)
    subst j
    rw [ha] at e;cases e
    have d':Data.seq vs.toArray _=Data.dict es ep:=d
    cases d'
  have p:∀{b:Addr} {m:.G},g.heap.Ns b m->(xH g.heap H).Ns b m:=fun {b m} ⟨o,es,ep,e,d,r⟩=>⟨o,es,ep,i e (t e d),d,r⟩
  have J:K.In (xH g.heap H):=fun b o e=>i (B b o e) (by
   cases q:H b with
   |none=>rfl
   |some u =>
    have j:b=a:=hA b (by rw [q];simp)
    subst j
    rw [T (by rw [q];simp)] at e;cases e)
  have N:Mod K mg (xH g.heap H):=⟨J,p C,⟨mb,p hb,l⟩,let ⟨Q,h1,h2⟩:=E;⟨Q,p h1,h2⟩⟩
  have O:Bl P w K mg (xH g.heap H) callerA [] g H:=⟨rfl,N,fun b o e=>Ke e,Nat.le_of_eq (Ff _ _),trivial,fun b hb=>absurd (show b∈([]:List Addr) from hb) .f,hok,.of_eq L⟩
  refine codeAny_mono ((F _ J (p C)).run callerA [] g H ⟨[.ref a],[]⟩ [.ref a] [.ref a] _ _ hr O (y g (.d a)) (.aD rfl) (c H hO hS)) fun r s' h=>?_
  cases r with
  |error e=>exact (A H e s' h).elim
  |ok fl =>
   cases fl with
   |next=>exact False.elim h
   |brk=>exact False.elim h
   |cont=>exact False.elim h
   |ret u =>
    obtain⟨v,H',os,bare,un,M,Y,q⟩:=h
    have G:v=.bl true:=q
    subst G
    obtain rfl:u=Value.bool true:=Y
    refine⟨rfl,OldK.of_keep fun b o e=>?_,os,bare⟩
    cases q:H b with
    |none=>exact un.keep b o e q (by intro z;exact absurd (show b∈([]:List Addr) from z) .f) .f
    |some u =>
     rcases hO b with z | ⟨ob,xs,z⟩
     ·rw [q] at z;cases z
     ·have D:=un.frzs b ob _ z
      obtain⟨e1,_⟩:=hok b _ z
      obtain⟨e2,_⟩:=M b _ D
      rw [e] at e1;cases e1
      exact e2
 cases hk:K.lookup a with
 |some o =>
  have e:=B a o hk
  rw [ha] at e
  cases e
  refine core .ja (fun _=>.inl rfl) (.inr ⟨_,vs.toArray,_,hk,rfl,rfl,rfl,by rw [List.size_toArray,I];exact hl,by simpa using f⟩) (fun b u z=>by have S:(none:Option HO)=some u:=z;cases S) (fun b z=>absurd rfl z) fun z=>absurd rfl z
 |none =>
  refine core (fun b=>if b=a then some (.frz { cls:=.type "list", data:=.seq vs.toArray } (.lst .ic)) else none) (fun b=>?_) (.inl (.a1 ⟨{ cls:=.type "list", data:=.seq vs.toArray },.e8⟩)) (fun b u z=>?_) (fun b z=>?_) fun _=>hk
  ·by_cases hb:b=a
   ·exact .a1 ⟨_,_,if_pos hb⟩
   ·exact .inl (if_neg hb)
  ·by_cases hb:b=a
   ·have S:=(if_pos hb).symm.trans z
    cases S
    subst hb
    exact⟨ha,by rw [zah];exact hl,vs,_,f,ha⟩
   ·have S:=(if_neg hb).symm.trans z
    cases S
  ·by_cases hb:b=a
   ·exact hb
   ·exact absurd (if_neg hb) z
theorem Es {l:PySem.W.OpenLaw}{n k:Nat}{q:.ai}{loose:.U}{XP:.ij}{z:World->Heap->Prop}{d:DefRec}{K:Params->PySem.W.Frag}{CX:World->Ex}{sp:World->Sp}{x:Str}
  (hn:l.most=some n) (t:n≤sizeLine) (i:d.params.defaults=[]) (hr:eG k callerA)
  (b:∀(w:World) (h:Heap),z w h->(K w.params).In h)
  (F:∀(w:World) (mg:.G) (fa:Addr) (h:Heap),(K w.params).In h->h.Ns mainGlobals mg->mg d.name=some (.d fa) ->
   ∃fd:FuncData,(∀(s:Shared) (u:Value),BindsTo s fd ⟨[u],[]⟩ [(x,u)]) /\
    ∀base:Heap,(K w.params).In base->base.Ns mainGlobals mg->iO l.prog w (K w.params) mg base (CX w) k fa fd [x] (sp w))
  (c:∀(w:World) (H:Hp) (a:Addr) (ns:.e5),ns.length≤n->LV H->gE (K w.params) H a .ic->sp w [.ref a] H (fun v _=>v=.bl true) fun _ _ _=>False)
  (A:∀(w:World) (H:Hp) (s:Shared) (e:Value) (s':Shared),CX w [] H s (fun _ _ _=>False) e s'->False):
  PySem.W.WalkO q loose XP z l.row.toRowW d [] .jz:=by
 refine Att.zu hn i fun w Y8 g mg mb fa o pm m doc a vs ns G Y ho hd p y j hints hlen L=>?_
 have B:=b w _ Y
 obtain⟨fd,hb,N⟩:=F w mg fa _ B G.T.g y
 exact Hu B G.T.g G.T.b G.T.builtins G.T.nolimit L j hints (zaz hlen t) hr N hb (fun H hO hS=>c w H a ns hlen hO hS) fun H e s'=>A w H g e s'
end L2
/- THE LAST THEOREM (shape;LID,My.* are yours):
   My.Adr: a structure of the addresses that your layer names (classes,functions);My.Txt K t: a structure (Prop) of the equations over K;
   My.txt_mk:{K} {implicit addresses ..} (e1:nsIn K mainGlobals "law" = some (.R f)) (e2:K.lookup f=some ⟨oc,od,.func (fnOf "law" "law" params body scope dV kV doc pm an cdv ct),sl⟩) (e3:codeIn K cdv "law" = true) .. : ∃t,My.Txt K t
set_option maxRecDepth 100000 in
set_option maxHeartbeats 0 in
theorem PySem.Challenge.cw_LID_holds : PySem.Challenge.rw_LID.Holds := by
 w_on;o_law;k_head;(case hw=>w_witness2)
 k_fill
 refine L2.Es (l:=PySem.Challenge.rw_LID) (n:=63) (k:=40) (x := "script") (CX:=fun w=>..) (sp:=fun _=>My.sp_law) rfl .e rfl ⟨rfl,.e,.e⟩ (fun w h Y=>PySem.W.kIn_of Y) ?F ?S ?C
 case F =>
  intro w mg fa h KX G hmg
  have T:∃t,My.Txt (L2.KOf KX) t:=by
   dsimp only [L2.KOf] -- K must stand as «<heap const> w.params» for k_is
   refine' My.txt_mk ?e1 ?e2 ?e3 ..
   (case e1=>PySem.W.k_is) -- in the order: a name->its address->its object->its parts
   (case e2=>PySem.W.k_is)
   ..
  obtain⟨t,T⟩:=T
  have e0:=hmg.symm.trans (PySem.W.mg_of KX G T.law)
  cases e0 -- fa is the law's own address
  exact⟨_,fun s u=>.of_eq rfl,fun base kb nb=>My.law_fn T kb nb⟩ -- if «.of_eq rfl» comes too early: refine' ⟨_,?b,fun base kb nb=>My.law_fn T kb nb⟩;exact fun s u=>.of_eq rfl
 case S=>exact fun w H a ns hl hO hS=>..
 case C=>exact ..
(the tactic k_is has no namespace: write k_is) -/
namespace L2
open PySem PySem.Spec PyProof.Rows
noncomputable def inClass (s:Stmt)(j:Nat):Stmt:=match s with
 | .ClassDef _ _ _ body _ _ _ _ _ _ _=>body.getD j (.Pass .g9)
 |_=>.Pass .g9
noncomputable def jV (s:Stmt):Arguments:=match s with
 | .FunctionDef _ a _ _ _ _ _ _ _ _=>a
 |_=>{ posonlyargs:=[],args:=[],vararg:=none,kwonlyargs:=[],kw_defaults:=[],kwarg:=none,defaults:=[] }
def eT (s:Stmt):List Stmt:=match s with
 | .FunctionDef _ _ b _ _ _ _ _ _ _=>b
 |_=>[]
noncomputable def ax (s:Stmt):Scope:=match s with
 | .FunctionDef _ _ _ _ _ _ sc _ _ _=>sc
 |_=>{ kind:=.function,names:=[],isGenerator:=false,isCoroutine:=false }
abbrev uQ:Ex:=fun _ _ _ _ _ _=>False
abbrev E0:XK:=fun _ _ _=>False
theorem AG {X:Cx}:Passes uQ X E0:=fun _ _ _ _ _ _ _ h=>h.elim
structure eN (K:.j)(x qual:Str)(st:Stmt)(f:Addr)(fd:.e7):Prop where
 ex:∃(oc:Value) (od:.dr) (kV doc pm:Value) (an:.dr) (cdv ct:Value) (osl:Array (Option Value)),
  fd=PySem.W.fnOf x qual (jV st) (eT st) (ax st) .none kV doc pm an cdv ct/\K.lookup f=some ⟨oc,od,.func fd,osl⟩/\PySem.W.codeIn K cdv qual=true
 kp:PySem.W.keepIn K (.d f)=true
section
variable {P:.ai}{w:World}{K:.j}{mg:.G}{base:Heap}
theorem eN.ok {x qual:Str}{st:Stmt}{f:Addr}{fd:.e7}{N ps:.U}{k:Nat}{sp:Sp}(F:.dD)(S:.hK)(len:∀vs H Q E,sp vs H Q E->vs.length=ps.length)
  (a:∀(cdv:Value) (A:Around) (outer:.e6) (s:Shared) (H:Hp) (vs:List V) (Q:VK) (E:XK),eG k .aK->sp vs H Q E ->
   ∃t,lj (sP uQ P w K mg base N qual (ax st) f cdv A outer s H E).nox (eT st) t/\t { nx:=fun _ H'=>Q .non H',rt:=Q } (start N vs) H):iO P w K mg base uQ (k+1) f fd ps sp:=by
 obtain⟨oc,od,kV,doc,pm,an,cdv,ct,osl,rfl,g,p⟩:=F.ex
 refine OY g p S len fun A outer s H vs Q E hr c=>?_
 obtain⟨t,h,q⟩:=a cdv A outer s H vs Q E hr c
 exact⟨t,h.nox,q⟩
theorem eN.binds {x qual:Str}{st:Stmt}{f:Addr}{fd:.e7}{ps:.U}(F:.dD)
  (h:∀(kV doc pm:Value) (an:.dr) (cdv ct:Value) (us:.S),us.length=ps.length->bindArgs .cK ⟨us,[]⟩=pure (ps.zip us)):Binds K fd ps []:=by
 obtain⟨oc,od,kV,doc,pm,an,cdv,ct,osl,rfl,g,p⟩:=F.ex
 exact .all (h kV doc pm an cdv ct)
theorem Mm {x qual:Str}{st:Stmt}{f:Addr}{oc:Value}{od an:.dr}{osl:Array (Option Value)}{kV doc pm cdv ct:Value}(l:K.lookup f=some ⟨oc,od,.func .cK,osl⟩)
  (c:PySem.W.codeIn K cdv qual=true) (k:PySem.W.keepIn K (.d f)=true):eN K x qual st f .cK:=⟨⟨oc,od,kV,doc,pm,an,cdv,ct,osl,rfl,l,c⟩,k⟩
end
theorem bX {n:Nat}(h:n≤1000):n<sizeLine:=zaG h .e
section
variable {X:Cx}
theorem pv (i:Nat){x:Str}{pos:Pos}(J:X.N[i]? = some x:=by rfl)(Z:N3 X.env.scope x:=by first | exact Or.inl rfl | exact Or.inr .t | exact Or.inr .ix)(hd:.M=false:=by decide)
  (p:(x == ("__classdict__" : Str))=false:=by decide):PE X .fB (uA i):=M8 J Z hd p
end
def aJ (H H':Hp):Prop:=∀b o,H b=some o->H' b=some o
theorem aJ.refl (H:Hp):aJ H H:=fun _ _ h=>h
theorem aJ.trans {H H1 H2:Hp}(a:aJ H H1)(b:aJ H1 H2):aJ H H2:=fun c o h=>b c o (a c o h)
theorem aJ.free {H H':Hp}(e:aJ H H'){l:Addr}(h:H' l=Option.none):H l=Option.none:=by
 cases q:H l with
 |none=>rfl
 |some o =>
  rw [e l o q] at h
  cases h
theorem aJ.seq {K:.j}{H H':Hp}{a:Addr}{xs:List V}(e:aJ H H')(h:gE K H a xs):gE K H' a xs:=by
 rcases h with (h | ⟨o,h⟩) | h
 ·exact .inl (.inl (e _ _ h))
 ·exact .inl (.a1 ⟨o,e _ _ h⟩)
 ·exact .inr h
theorem Fp (o:Obj)(f:Array Value->Array Value):(o.mapFields f).dict=o.dict:=by
 obtain⟨c,d,t,l⟩:=o
 cases t<;>rfl
def KD (g g':Heap)(e:Addr):Prop:=∀o,g.get? e=some o->∃o',g'.get? e=some o'/\o'.dict=o.dict
theorem KD.trans (x:KD g1 g2 e)(y:KD g2 g3 e):KD g1 g3 e:=fun o q=>by
 obtain⟨f,q1,E⟩:=x o q
 obtain⟨l,q2,J⟩:=y f q1
 exact⟨l,q2,J.trans E⟩
section
variable {M:Model}{A:Around}{E:.n}{s:Shared}{bs:Heap}{env:Env}{out:.e6}{L e:Addr}{a0 fl:Value}{oe:Obj}{vs:.cP}{Q:.dR}
theorem Md {nx:Bool}(G:A.frames=some (env::out))(hl:s.heap.FunFrames bs (env::out))(hf:env.frame=some L)(he:s.heap.get? e=some oe)(hk:bs.StaysIn s.heap)(hn:bs.get? e=none)
  (hd:oe.data=.fields vs) (hz:1<vs.size) (h0:vs[0]? = some a0)
  (hq:∀g',Heap.NotedW bs (env::out) e oe.cls a0 (rawInt L) s.heap g'->KD s.heap g' e->Q () { s with heap:=g' }):
  wpAny M A (do let a <- frameOf env;let pl <- entryPlaceOf L nx;let b <- EntryCells.newEntry f a .none (rawInt L) .none pl;setField (.d e) 1 b) Q E s:=by
 have k:e∉(env::out).filterMap (·.frame):=fun m=>by
  obtain⟨_,o,q,N⟩:=hl.mem m
  rw [he] at q
  cases q
  exact N vs hd
 refine .f (wpAny_frameOf_fun G hl hf fun j t1=>wpAny_bind (wpAny_entryPlaceOf fun pl l=>?_))
 unfold EntryCells.newEntry newFields
 refine .f (wpAny_newObj_type ?_ (l.sizeOk5 _ _ _ _ _))
 have e1:j.get? e=some oe:=(t1.2.1 e k).trans he
 have k1:bs.StaysIn j:=fun b o q=>(t1.2.1 b fun m=>by rw [(hl.mem m).1] at q;cases q).trans (hk b o q)
 obtain⟨ob,d⟩:∃ob:Obj,ob={ cls:=.type "traceback", dict:=none,data:=.fields ([f,.ref L,.none,rawInt L,.none]++(if pl.isEmpty then List.replicate 6 Value.none else pl)).toArray }:=⟨_,rfl⟩
 have g:ob.data=.fields ([f,.ref L,.none,rawInt L,.none]++(if pl.isEmpty then List.replicate 6 Value.none else pl)).toArray:=by rw [d]
 rw [<- d]
 have e2:=Heap.get?_push_of_some (h:=j) ob e1
 have i:j.objs.size≠e:=zaW (.aU e1)
 obtain⟨fn,t⟩:∃fn:Array Value->Array Value,fn=(·.setIfInBounds 1 (Value.ref j.objs.size)):=⟨_,rfl⟩
 have d3:=Obj.data_mapFields hd fn
 have e3:=Heap.get?_update_self .hC e2 (Obj.isFreed_of_fields d3)
 have n:=(Heap.get?_update_other (j.push ob) .hC (.bf i)).trans (Heap.get?_push_size j (by rw [d];rfl))
 have kp:∀b o,b≠e->j.get? b=some o->((j.push ob).update e .hC).get? b=some o:=fun b o K q=>by
  rw [Heap.get?_update_other _ _ (.bf K)]
  exact .bD
 have c:∀b o,s.heap.get? b=some o->(∀ws,o.data≠.fields ws)->b≠e:=fun b o q N z=>by
  rw [z,he] at q
  cases q
  exact N vs hd
 have dd:KD s.heap ((j.push ob).update e .hC) e:=fun o q=>by
  rw [he] at q
  cases q
  exact⟨_,e3,Fp _ _⟩
 refine wpAny_setField e2 hd hz (t ▸ hq _ ⟨fun b o q=>kp b o (fun z=>by rw [z,hn] at q;cases q) (k1 b o q),hl.of_keeps fun b o q N=>?_,?_,fun b o q N=>?_⟩ dd)
 ·obtain⟨sl,z⟩:=t1.2.2 b o q
  exact⟨_,kp b _ (c b o q N) z,rfl⟩
 ·refine⟨_,_,j.objs.size,_,_,e3,⟨Obj.cls_mapFields _ _,?_⟩,d3,?_,k1.fresh,i,n,g,?_⟩
  ·rw [t,Array.getElem?_setIfInBounds_ne .e];exact h0
  ·rw [t];simp [hz]
  ·first | (simp;done) | (rcases l with rfl | ⟨_,_,_,_,_,_,_,rfl⟩<;>simp)
 ·obtain⟨sl,z⟩:=t1.2.2 b o q
  exact⟨sl,kp b _ (c b o q N) z⟩
theorem MK (G:A.frames=some (env::out))(hl:s.heap.FunFrames bs (env::out))(hf:env.frame=some L)(Y:s.heap.TracedW bs e cls a0)(hk:bs.StaysIn s.heap)(hn:bs.get? e=none)
  (hq:∀g',Heap.NotedW bs (env::out) e cls a0 (rawInt L) s.heap g'->KD s.heap g' e->Q () { s with heap:=g' }):wpAny M A (noteFrame (.d e) env) Q E s:=by
 obtain⟨ox,ws,T,oT,ts,J,⟨rfl,C⟩,j,g,v,I,B,i,n⟩:=Y
 unfold noteFrame
 simp only [hf]
 refine .f (wpAny_field J j g ?_)
 rw [if_pos (show (Value.ref T != Value.none)=true from by simp)]
 refine .f (wpAny_field B i n ?_)
 rw [if_neg (show ¬ ((Value.none == rawInt L)=true) from by simp [rawInt])]
 refine .f (wpAny_setField B i (za8.mp n).1 ?_)
 have a:∀b,b≠T->(s.heap.update T (Obj.mapFields (·.setIfInBounds 3 Value.none))).get? b=s.heap.get? b:=fun b K=>Heap.get?_update_other _ _ (.bf K)
 have c:∀b o,s.heap.get? b=some o->(∀us,o.data≠.fields us)->b≠T:=fun b o q N z=>by
  rw [z,B] at q
  cases q
  exact N ts i
 refine Md G (hl.of_keeps fun b o q N=>⟨o,(a b (c b o q N)).trans q,rfl⟩) hf ((a e (.bf I)).trans J) (fun b o q=>(a b fun z=>by rw [z,v] at q;cases q).trans (hk b o q)) hn j (za8.mp g).1 C fun g' y k=>?_
 obtain⟨l,w,V,W⟩:=y
 refine hq g' ⟨l,w,V,fun b o q N=>W b o ((a b (c b o q N)).trans q) N⟩ fun o q=>k o ((a e (.bf I)).trans q)
theorem Dm (hk:bs.StaysIn s.heap)(hl:s.heap.FunFrames bs l)(Y:s.heap.TracedAtW bs e cls a0 fl)(hn:bs.get? e=none)
  (hq:∀g',Heap.FlyingW bs l e cls a0 g'->s.heap.UpToSlots g'->KD s.heap g' e->Q () { s with heap:=g' }):wpAny M A (setFlight (.d e) none) Q E s:=by
 obtain⟨ox,ws,T,oT,ts,J,C,j,g,v,I,B,i,n⟩:=Y
 have k:3<ts.size:=(za8.mp n).1
 obtain⟨fn,t⟩:∃fn:Array Value->Array Value,fn=(·.setIfInBounds 3 ((none:.dr).elim Value.none fun f=>rawInt f)):=⟨_,rfl⟩
 have a:∀b,b≠T->(s.heap.update T .hC).get? b=s.heap.get? b:=fun b K=>Heap.get?_update_other _ _ (.bf K)
 have c:∀b o,s.heap.get? b=some o->(∀us,o.data≠.fields us)->b≠T:=fun b o q N z=>by
  rw [z,B] at q
  cases q
  exact N ts i
 unfold setFlight
 refine .f (wpAny_field J j g ?_)
 rw [if_pos (show (Value.ref T != Value.none)=true from by simp)]
 refine wpAny_setField B i k (t ▸ hq _ ⟨fun b o q=>(a b fun z=>by rw [z,v] at q;cases q).trans (hk b o q),hn,hl.of_keeps fun b o q N=>⟨o,(a b (c b o q N)).trans q,rfl⟩,?_⟩ (fun b o q N=>⟨o.slots,(a b (c b o q N)).trans q⟩) fun o q=>⟨o,(a e (.bf I)).trans q,rfl⟩)
 exact⟨ox,ws,T,_,_,(a e (.bf I)).trans J,C,j,g,v,I,Heap.get?_update_self _ B (Obj.isFreed_of_fields (Obj.data_mapFields i _)),Obj.data_mapFields i _,by rw [t];simp [k]⟩
end
abbrev vE:List Value:=[.dn, .dC, .cC, .an]
structure lH (K:.j)(C:Addr)(bm:.S)(ini:.dJ):Prop where
 ex:∃N nm q bs hdct sn sub ab col dd k0 k1 k2 k3 k5 od es ep,K.lookup C=some (excClassObj nm q C N bs bm hdct sn sub ab col dd k0 k1 k2 k3 k5 "ValueError.__new__")/\K.lookup N=some od/\od.data=.dict es ep/\es.all (fun e=>match e.key with | .str _ _=>true | _=>false)=true/\nsFind es "__init__" = ini
theorem lH.at {K:.j}{C:Addr}{bm:.S}{ini:.dJ}(x:lH K C bm ini):∃N nm q bs hdct sn sub ab col dd k0 k1 k2 k3 k5 n,(∀h,K.In h->h.get? C=some (excClassObj nm q C N bs bm hdct sn sub ab col dd k0 k1 k2 k3 k5 "ValueError.__new__")/\h.Ns N n)/\n "__init__" = ini:=by
 obtain⟨N,nm,q,bs,hdct,sn,sub,ab,col,dd,k0,k1,k2,k3,k5,od,es,ep,e1,e2,e3,e4,e5⟩:=x.ex
 refine⟨N,nm,q,bs,hdct,sn,sub,ab,col,dd,k0,k1,k2,k3,k5,nsFind es,fun h k=>⟨k _ _ e1,?_⟩,e5⟩
 have J:h.isNs N=true:=by
  unfold Heap.isNs
  rw [k _ _ e2]
  dsimp only
  rw [e3]
  exact e4
 obtain⟨o,i,j,f1,f2,M,f4⟩:=Heap.Ns.of_isNs J
 rw [k _ _ e2] at f1
 cases f1
 rw [e3] at f2
 cases f2
 exact⟨_,es,ep,k _ _ e2,e3,M,fun _=>rfl⟩
structure RF (K:.j)(C:Addr)(up:.V)(ini:.dJ):Prop where
 cls:lH K C (up.map Value.ref++vE) ini
 ups:∀A∈up,∃bm,lH K A bm none
section
variable {X:Cx}{pins:.s}{σ:St}{H:Hp}{s:Shared}{C:Addr}{up:.V}{x:Str}{np cpos pos:Pos}{e:Expr}{t:TA}
end
def Ov (od:.dr)(a:Addr)(h:Heap):Prop:=∃oe,h.get? a=some oe/\oe.dict=od
theorem Ov.kd (x:Ov od a h)(k:KD h h' a):Ov od a h':=by
 obtain⟨oe,q,e1⟩:=x
 obtain⟨o',G,e2⟩:=k oe q
 exact⟨o',G,e2.trans e1⟩
structure RG (P:.ai)(w:World)(outer:.e6)(H:Hp)(s:Shared)(C a:Addr)(od:.dr)(H':Hp)(s':Shared):Prop where
 os:s'.os=s.os
 bare:AllBare s'.gens
 un:Un (wm outer) [] H H' s.heap s'.heap
 hok:lF P w H' s'.heap
 new:s.heap.get? a=none
 nH:H' a=none
 fl:∃B a0,Heap.FlyingW B outer a (.d C) a0 s'.heap/\∀b o,s'.heap.get? b=some o->(H' b≠none\/(.iN/\b∉wm outer))->B.get? b=some o
 dc:Ov od a s'.heap
noncomputable def Made (X:Cx)(pins:.s)(σ:St)(H:Hp)(C:Addr)(od:.dr)(e:Value)(s':Shared):Prop:=
 ∃a oe vs a0,e=.ref a/\Inv X pins σ H s'/\H a=none/\X.Y8.heap.get? a=none/\s'.heap.get? a=some oe/\oe.cls=.ref C/\oe.data=.fields vs/\vs[0]? = some a0/\vs[1]? = some .none/\oe.dict=od
noncomputable def Ou (X:Cx)(pins:.s)(σ:St)(H:Hp)(C:Addr)(od:.dr)(e:Value)(s':Shared):Prop:=∃a s H0,e=.ref a/\Inv X pins σ H0 s/\RG X.prog X.w X.stack H0 s C a od H s'
section
variable {X:Cx}{pins:.s}{σ:St}{H H0:Hp}{s s':Shared}{C a:Addr}{od:.dr}{h1 h' B:Heap}
end
abbrev Cx.inS (X:Cx)(e:Value):Cx:={ X with A:=X.A.mark (.aX e),calm:=false,xe:=fun _ _=>False }
section
variable {X:Cx}{pins:.s}{σ:St}{H H0:Hp}{s s':Shared}{C D a:Addr}{od:.dr}{h1 h' B:Heap}
theorem Inv.inS (I:.q)(e:Value):Inv (X.inS e) pins σ H s:=
 ⟨⟨I.ok.mod,I.ok.kind,I.ok.glob,I.ok.blt,I.ok.above,I.ok.inj,I.ok.has,I.ok.cab,.a6,I.ok.frames,I.ok.stk,I.ok.exf,I.ok.bs,I.ok.bsz,I.ok.noex,I.ok.exfs,I.ok.funs,I.ok.frf⟩,I.os,I.bare,I.base,I.loc,I.cell,I.free,I.freeC,I.pin,I.hok,I.len⟩
theorem Inv.outS (ok:X.Ok)(I:Inv (X.inS e) pins σ H s):Inv X pins σ H s:=⟨ok,I.os,I.bare,I.base,I.loc,I.cell,I.free,I.freeC,I.pin,I.hok,I.len⟩
noncomputable def oC (a C:Addr)(od:.dr):Heap->Prop:=fun h=>∃oe vs,h.get? a=some oe/\oe.cls=.ref C/\oe.data=.fields vs/\oe.dict=od
theorem tm (m:Inv X pins σ H0 s)(F:RG X.prog X.w X.stack H0 s C a od H s')(hB:B.StaysIn h')(h:∀b o,s'.heap.get? b=some o->(H b≠none\/(.iN/\b∉wm X.stack))->B.get? b=some o)
  (up:s'.heap.UpToSlots h') (he:oC a C od h') {tk:Nat}:Inv X pins σ .i6 { s' with heap:=h',toks:=tk }:=by
 have d:=F.un
 have ne:∀b u,H b=some u->b≠a:=fun b u e z=>by rw [z,F.nH] at e;cases e
 have ne':∀b o,s.heap.get? b=some o->b≠a:=fun b o e z=>by rw [z,F.new] at e;cases e
 have NQ:∀b u o,H b=some u->s'.heap.get? b=some o->h'.get? b=some o:=fun b u o e e1=>hB _ _ (h b o e1 (.inl (by rw [e];simp)))
 have kept:∀b o,s.heap.get? b=some o->b∉wm X.stack->∀f,s'.heap.get? b=some f->h'.get? b=some f:=fun b o e hb f e1=>hB _ _ (h b f e1 (.a1 ⟨⟨o,e⟩,hb⟩))
 have slot:∀b o,s.heap.get? b=some o->H0 b=none->b∈wm X.stack->∃sl,h'.get? b=some { o with slots:=sl }:=fun b o e n hb=>by
  obtain⟨sl,e1⟩:=d.slot b o e n hb .f
  obtain⟨_,l,e2,J⟩:=m.stack.mem hb
  rw [e] at e2
  cases e2
  obtain⟨g,e3⟩:=up b _ e1 J
  exact⟨g,e3⟩
 refine m.call' (s':={ s' with heap:=h',toks:=tk }) (ch:=[]) F.os ⟨fun b o e n hb hx=>?_,fun b o e n hb hx=>slot b o e n hb,fun b o e n hx=>?_,fun b o e hx=>?_,fun b xs e=>?_,fun b o u e=>?_,fun b ps e=>?_⟩ (fun b u e=>?_) F.bare fun b hb=>absurd hb .f
 ·exact kept b o e hb o (d.keep b o e n hb hx)
 ·rw [ay (ne' b o e)];exact d.free b o e n hx
 ·obtain⟨f,e1⟩:=d.there b o e hx
  by_cases hb:b∈wm X.stack
  ·obtain⟨sl,q⟩:=slot b o e (m.stkFree b hb) hb
   exact⟨_,q⟩
  ·exact⟨f,kept b o e hb f e1⟩
 ·have:=d.tups b xs e
  rw [ay (ne b _ this)];exact this
 ·have:=d.frzs b o u e
  rw [ay (ne b _ this)];exact this
 ·obtain⟨more,this⟩:=d.tbls b ps e
  exact⟨more,by rw [ay (ne b _ this)];exact this⟩
 ·by_cases hb:b=a
  ·subst hb
   rw [aF] at e
   cases e
   obtain⟨oe,vs,q⟩:=id he
   exact⟨he,⟨oe,q.1⟩,fun j r ⟨f,v1,q1⟩ k=>⟨f,v1,k _ q1.1,q1.2⟩⟩
  ·rw [ay hb] at e
   refine (F.hok b u e).stay (fun c w U q=>?_) (fun c q=>?_) fun c xs q=>?_
   ·rcases U with rfl | U
    ·exact NQ _ u w e q
    ·exact NQ _ _ w U q
   ·rw [ay (ne c _ q)];exact q
   ·rw [ay (ne c _ q)];exact q
theorem we {K:.j}{b:Bool}(k:K.In s.heap)(o:lH K C bC iC)(t:lH K D bD iD)(l:bD.contains .fo=true)(hb:(Value.ref C::bC).contains (.d D)=b)(he:oC a C od s.heap)
  {Q:Bool->Shared->Prop} (hq:Q b s):wpAny M A (excMatches (.d a) (.d D)) Q E s:=by
 obtain⟨N,nm,q,bs,hdct,sn,sub,ab,col,dd,k0,k1,k2,k3,k5,n,e1,_⟩:=o.at
 obtain⟨N',F,G,p,i,I,v,J,w,j,x,m,c,r,y,L,u,_⟩:=t.at
 have P:=(e1 _ k).1
 have e:=(u _ k).1
 obtain⟨oe,vs,g1,g2,g3,z⟩:=he
 have h:(Value.ref D::bD).contains .fo=true:=by rw [List.contains_cons,l,Bool.or_true]
 have f:=PySem.tc_notTuple
 obtain⟨hp,g,d,tk,os⟩:=s
 unfold excMatches
 cases b with
 |true =>
  repeat (first
   |(with_reducible refine wpAny_loadPart_at g1 ?_;rw [g2])
   |(with_reducible refine wpAny_loadPart_at e ?_)
   |(with_reducible refine zbc e ?_;rw [h])
   |(with_reducible refine zbc P ?_;rw [hb])
   | wp_step)
  exact hq
 |false =>
  repeat (first
   |(with_reducible refine wpAny_loadPart_at g1 ?_;rw [g2])
   |(with_reducible refine wpAny_loadPart_at e ?_)
   |(with_reducible refine zbc e ?_;rw [h])
   |(with_reducible refine zbc P ?_;rw [hb])
   | wp_step)
  exact hq
end
theorem wk (x:Heap.FlyingW B l a (.d C) a0 h)(dc:Ov od a h):oC a C od h:=by
 obtain⟨_,_,_,oe,vs,T,oT,ts,e1,e2,e3,_⟩:=x
 obtain⟨o',q,j⟩:=dc
 rw [e1] at q
 cases q
 exact⟨oe,vs,e1,e2.1,e3,j⟩
noncomputable def pR (X:Cx)(pins:.s)(σ:St)(H:Hp)(C:Addr)(od:.dr)(a:Addr)(s5:Shared):Prop:=
 ∃s s' H0 B a0,Inv X pins σ H0 s/\RG X.prog X.w X.stack H0 s C a od H s'/\Heap.FlyingW B X.stack a (.d C) a0 s5.heap/\(∀b o,s'.heap.get? b=some o->(H b≠none\/(.iN/\b∉wm X.stack))->B.get? b=some o) /\
  s'.heap.UpToSlots s5.heap/\KD s'.heap s5.heap a/\s5={ s' with heap:=s5.heap }
section
variable {X:Cx}{pins:.s}{σ:St}{H:Hp}{s' s5:Shared}{C D a:Addr}{od:.dr}{bC bD:.S}{iC iD:.dJ}{e:Value}{i:Nat}{n x:Str}{Y6:Stmt}{suite:.a4}{np pos:Pos}{Dn:Ends}{E:.n}{hs:List ExceptHandler}
theorem pR.inv (z:pR X pins σ H C od a s5):H a=none/\Inv X pins σ .i6 s5/\oC a C od s5.heap:=by
 obtain⟨s,s',H0,B,a0,m,F,v,h,u,kd,e5⟩:=z
 have he:=wk v (F.dc.kd kd)
 have V:=tm (tk:=s'.toks) m F v.1 h u he
 exact⟨F.nH,by rw [e5];exact V,he⟩
theorem Bw (g:X.stack=X.env::X.outer)(hf:X.env.frame=some X.env.locals)(z:Ou X pins σ H C od e s')
  (P:∀a s5,e=.ref a->pR X pins σ H C od a s5->wpAny .o X.A (.aS hs) .ie E s5):
  wpAny .o X.A (noteFrame e X.env) (fun _ d=>wpAny .o X.A (setFlight e none) (fun _ c=>wpAny .o X.A (handleBy e X.env hs) .ie E c) E d) E s':=by
 obtain⟨a,s,H0,rfl,m,F⟩:=z
 obtain⟨B,a0,fl,h⟩:=F.fl
 have G:=m.ok.frames
 have k:=fl
 rw [g] at fl G
 obtain⟨f1,f2,M,f4⟩:=fl
 refine MK G M hf f4 f1 f2 fun j y k1=>?_
 obtain⟨l,w,V,W⟩:=y
 refine Dm (s:={ s' with heap:=j }) l w V f2 fun r f u k2=>?_
 refine P a _ rfl ⟨s,s',H0,B,a0,m,F,?_,h,Heap.UpToSlots.trans (fun b o q N=>W b o q N) u,k1.trans k2,rfl⟩
 rw [g]
 exact f
theorem Fd (z:pR X pins σ H C od a s5)(o:lH X.K C bC iC)(t:lH X.K D bD iD)(l:bD.contains .fo=true)(A:(Value.ref C::bC).contains (.d D)=false)
  (L:Gl X x) (hm:X.mg x=some (.d D)) (hr:wpAny .o X.A (.aS hs) .ie E s5) (G:.M=false:=by decide):
  wpAny .o X.A (.aS (.ExceptHandler (some (.af np)) nm b pos::hs)) .ie E s5:=by
 obtain⟨nH,V,he⟩:=z.inv
 refine wpAny_handleBy_cons (codeAny_handlers_test ?_) (by intro q;cases q)
 refine oV (V.inS (.d a)) L hm ?_ G
 exact we V.kIn o t l A he hr
theorem BN (z:pR X pins σ H C od a s5)(o:lH X.K C bC iC)(t:lH X.K D bD iD)(l:bD.contains .fo=true)(A:(Value.ref C::bC).contains (.d D)=true)
  (L:Gl X x) (hm:X.mg x=some (.d D))
  (N:∀s2,H a=none->Inv (X.inS (.d a)) pins σ .i6 s2->wpAny .o (X.A.mark (.R a)) (execs (Y6::suite) X.env) (SP (X.inS (.d a)) pins Dn) .aI s2)
  (G:.M=false:=by decide):
  wpAny .o X.A (.aS (.ExceptHandler (some (.af np)) none (Y6::suite) pos::hs)) .ie E s5:=by
 obtain⟨nH,V,he⟩:=z.inv
 obtain⟨s,s',H0,B,a0,m,F,v,h,u,kd,e5⟩:=z
 refine wpAny_handleBy_cons (codeAny_handlers_test ?_) (by intro q;cases q)
 refine oV (V.inS (.d a)) L hm ?_ G
 refine we V.kIn o t l A he ?_
 show codeAny _ _ _ _ _
 refine codeAny_handlers_suite ?_
 obtain⟨f1,f2,M,f4⟩:=v
 refine Dm f1 M f4.at f2 fun p I j g=>?_
 have d:=tm (tk:=s'.toks) m F I.1 h (u.trans j) (wk I (F.dc.kd (kd.trans g)))
 rw [e5]
 refine wpAny_mono (N _ F.nH (d.inS (.d a))) (fun f c y=>?_) fun _ _ q=>False.elim q
 cases f with
 |next=>obtain⟨σ',H',b,q⟩:=y;exact⟨σ',H',b.outS m.ok,q⟩
 |brk=>obtain⟨σ',H',b,q⟩:=y;exact⟨σ',H',b.outS m.ok,q⟩
 |cont=>obtain⟨σ',H',b,q⟩:=y;exact⟨σ',H',b.outS m.ok,q⟩
 |ret u=>obtain⟨w,σ',H',b,r,q⟩:=y;exact⟨w,σ',H',b.outS m.ok,r,q⟩
end
section
variable {prog:.ai}{w:World}{A:Around}{E:.n}{h:Heap}{g:Array GenState}{d:Drawn}{t:Nat}{os:OsState}{a C:Addr}{o:Obj}{K:.j}{bm:.S}
end
open Builtin Builtin.ObjectAttr
section
variable {prog:.ai}{w:World}{A:Around}{E:.n}{s:Shared}{K:.j}{x C:Addr}{ox:Obj}{od:Option Obj}{name:Str}{tk:Tok}{v:Value}{R:.e4}
end
section
variable {X:Cx}{pins:.s}{σ:St}{H:Hp}{s:Shared}{a C:Addr}{f:Str}
end
end L2
namespace TM
open PySem PySem.Spec PyProof.Rows L2
inductive T where
 |non | bl (b:Bool) | int (i:Int) | str (x:Str) | ty (n:String) | tup (ts:List T) | lst (ts:List T) | scr (ts:List T) | dct (ns:.U) (ts:List T) | obj (C:Addr) (ns:.U) (ts:List T) | ptr (a:Addr) | exc (C:Addr) (ns:.U) (ts:List T)
abbrev T.dic:T:=.dct [] []
def bx:List Str->List V->List (Key×V)
 |n::ns,v::vs=>(.inr n,v)::bx ns vs
 |_,_=>[]
mutual
def Rep (K:.j)(F:Hp):T->V->Prop
 | .non,v=>v=.non
 | .bl b,v=>v=.bl b
 | .int i,v=>v=.int i
 | .str x,v=>v=.str x
 | .ty n,v=>v=.ty n
 | .tup ts,v=>∃a xs,v=.ref a/\mQ K F a xs/\aM K F ts xs
 | .lst ts,v=>∃a xs,v=.ref a/\F a=some .cG/\aM K F ts xs
 | .scr ts,v=>∃a xs,v=.ref a/\gE K F a xs/\aM K F ts xs
 | .dct ns ts,v=>∃a o vs,v=.ref a/\F a=some (.frz o (.dK .gb))/\vs.length=ns.length/\aM K F ts vs
 | .obj C ns ts,v=>∃a dx vs,v=.ref a/\F a=some (.ar (ns.zip vs))/\vs.length=ns.length/\aM K F ts vs
 | .ptr a,v=>v=.ref a
 | .exc C ns ts,v=>∃a od,v=.ref a/\F a=some (.ext (oC a C od))/\((ns=[]/\ts=[]/\od=none)\/∃d us,od=some d/\F d=some (.xd (ns.zip us))/\us.length=ns.length/\aM K F ts us)
def aM (K:.j)(F:Hp):List T->List V->Prop
 |[],xs=>xs=[]
 |t::ts,xs=>∃v r,xs=v::r/\Rep K F t v/\aM K F ts r
end
theorem bZ {K:.j}{H H':Hp}{a:Addr}{xs:List V}(e:aJ H H')(h:mQ K H a xs):mQ K H' a xs:=by
 rcases h with (h | ⟨o,h⟩) | h
 ·exact .inl (.inl (e _ _ h))
 ·exact .inl (.a1 ⟨o,e _ _ h⟩)
 ·exact .inr h
mutual
theorem Rep.mono {K:.j}{F F':Hp}(e:aJ F F'):∀{t:T} {v:V},Rep K F t v->Rep K F' t v
 | .non,_,h=>h
 | .bl _,_,h=>h
 | .int _,_,h=>h
 | .str _,_,h=>h
 | .ty _,_,h=>h
 | .tup ts,_,h=>by
  obtain⟨a,xs,h1,h2,M⟩:=h
  exact⟨a,xs,h1,bZ e h2,aM.mono e M⟩
 | .lst ts,_,h=>by
  obtain⟨a,xs,h1,h2,M⟩:=h
  exact⟨a,xs,h1,e _ _ h2,aM.mono e M⟩
 | .scr ts,_,h=>by
  obtain⟨a,xs,h1,h2,M⟩:=h
  exact⟨a,xs,h1,e.seq h2,aM.mono e M⟩
 | .dct ns ts,_,h=>by
  obtain⟨a,o,vs,h1,h2,M,D⟩:=h
  exact⟨a,o,vs,h1,e _ _ h2,M,aM.mono e D⟩
 | .obj C ns ts,_,h=>by
  obtain⟨a,dx,vs,h1,h2,M,D⟩:=h
  exact⟨a,dx,vs,h1,e _ _ h2,M,aM.mono e D⟩
 | .ptr _,_,h=>h
 | .exc _ _ ts,_,h=>by
  obtain⟨a,od,h1,h2,M⟩:=h
  refine⟨a,od,h1,e _ _ h2,M.imp id fun⟨d,us,k1,k2,k3,N⟩=>⟨d,us,k1,e _ _ k2,k3,aM.mono e N⟩⟩
theorem aM.mono {K:.j}{F F':Hp}(e:aJ F F'):∀{ts:List T} {vs:List V},aM K F ts vs->aM K F' ts vs
 |[],_,h=>h
 |t::ts,_,h=>by
  obtain⟨v,r,h1,h2,M⟩:=h
  exact⟨v,r,h1,Rep.mono e h2,aM.mono e M⟩
end
section
variable {K:.j}{F:Hp}
theorem aM.length:∀{ts:List T} {vs:List V},aM K F ts vs->vs.length=ts.length
 |[],_,h=>by cases h;rfl
 |t::ts,_,h=>by
  obtain⟨v,r,rfl,h2,M⟩:=h
  simp [aM.length M]
theorem aM.get:∀{ts:List T} {vs:List V} {i:Nat} {t:T},aM K F ts vs->ts[i]? = some t->∃v,vs[i]? = some v/\Rep K F t v
 |[],_,_,_,h,e=>by simp at e
 |t::ts,_,0,_,h,e=>by
  obtain⟨v,r,rfl,h2,M⟩:=h
  simp at e;subst e
  exact⟨v,rfl,h2⟩
 |t::ts,_,i+1,u,h,e=>by
  obtain⟨v,r,rfl,h2,M⟩:=h
  obtain⟨w,D,R⟩:=aM.get (i:=i) (t:=u) M .fK
  exact⟨w,by simpa using D,R⟩
theorem aM.append:∀{ts us:List T} {vs ws:List V},aM K F ts vs->aM K F us ws->aM K F (ts++us) (vs++ws)
 |[],_,_,_,h,h'=>by cases h;exact h'
 |t::ts,_,_,_,h,h'=>by
  obtain⟨v,r,rfl,h2,M⟩:=h
  exact⟨v,r++_,rfl,h2,aM.append M h'⟩
theorem aM.one (h:.ih):aM K F [t] [v]:=⟨v,[],rfl,h,rfl⟩
theorem aM.take:∀{ts:List T} {vs:List V} (n:Nat),aM K F ts vs->aM K F (ts.take n) (vs.take n)
 |_,_,0,_=>rfl
 |[],_,n+1,h=>by cases h;rfl
 |t::ts,_,n+1,h=>by
  obtain⟨v,r,rfl,h2,M⟩:=h
  exact⟨v,r.take n,rfl,h2,aM.take n M⟩
theorem aM.drop:∀{ts:List T} {vs:List V} (n:Nat),aM K F ts vs->aM K F (ts.drop n) (vs.drop n)
 |_,_,0,h=>h
 |[],_,n+1,h=>by cases h;rfl
 |t::ts,_,n+1,h=>by
  obtain⟨v,r,rfl,h2,M⟩:=h
  exact aM.drop n M
theorem aM.rev:∀{ts:List T} {vs:List V},aM K F ts vs->aM K F ts.reverse vs.reverse
 |[],_,h=>by cases h;rfl
 |t::ts,_,h=>by
  obtain⟨v,r,rfl,h2,M⟩:=h
  rw [zbs,zbs]
  exact (aM.rev M).append (.one h2)
theorem wG:∀ns:List Int,aM K F .id .ic
 |[]=>rfl
 |n::ns=>⟨.int n,ns.map V.int,rfl,rfl,wG ns⟩
end
structure aZ (F H F' H':Hp):Prop where
 sF:aJ F F'
 sH:aJ H H'
 fh:aJ F' H'
 nw:∀a o,F' a=some o->F a=some o\/H a=none
theorem aZ.refl (h:aJ F H):aZ F H F H:=⟨aJ.refl _,aJ.refl _,h,fun _ _ e=>.inl e⟩
theorem aZ.trans (a:aZ F H F1 H1)(b:aZ F1 H1 F2 H2):aZ F H F2 H2:=
 ⟨a.sF.trans b.sF,a.sH.trans b.sH,b.fh,fun x o e=>by
  rcases b.nw x o e with e | e
  ·exact a.nw x o e
  ·exact .inr (a.sH.free e)⟩
theorem cX {H:Hp}(h:H p=none):aJ H (.Y p o):=fun b u q=>by rw [ay (bg q h)];exact q
theorem aZ.new (o:HO)(h:aJ F H)(n:H p=none):aZ F H (upd F p o) (.Y p o):=by
 refine⟨cX (h.free n),cX n,fun b u q=>?_,fun a u q=>?_⟩
 ·by_cases e:b=p
  ·subst e;rw [aF] at q ⊢;exact q
  ·rw [ay e] at q ⊢;exact h _ _ q
 ·by_cases e:a=p
  ·subst e;exact .inr n
  ·rw [ay e] at q;exact .inl q
inductive Sl where
 |sh (t:T) | own (ts:List T)
abbrev az:=List (Option Sl)
noncomputable def zq (K:.j)(Y9 F H:Hp):Sl->V->Prop
 | .sh t,v=>Rep K F t v
 | .own ts,v=>∃p vs,v=.ref p/\H p=some .bn/\F p=none/\Y9 p=none/\aM K F ts vs
structure aB (K:.j)(Y0 Y9 F H:Hp)(σ:L2.St)(τ:az):Prop where
 g:aZ Y0 Y9 F H
 len:σ.length=τ.length
 sl:∀(i:Nat) (s:Sl),τ[i]? = some (.aX s)->∃v,σ[i]? = some .cY/\zq K Y9 F H s v
 dj:∀(i j:Nat) (ts us:List T) (p:Addr),i≠j->τ[i]? = some (.n ts)->τ[j]? = some (.n us)->σ[i]? = some (.R p)->σ[j]?≠some (.R p)
section
variable {K:.j}{Y0 Y9 F H F' H':Hp}{σ:L2.St}{τ:az}
theorem zq.grow (g:aZ F H F' H')(h:zq K Y9 F H s v):zq K Y9 F' H' s v:=by
 cases s with
 |sh t=>exact Rep.mono g.sF h
 |own ts =>
  obtain⟨p,vs,h1,h2,M,D,R⟩:=h
  refine⟨p,vs,h1,g.sH _ _ h2,?_,D,aM.mono g.sF R⟩
  cases e:F' p with
  |none=>rfl
  |some o =>
   rcases g.nw p o e with q | q
   ·rw [q] at M;cases M
   ·rw [q] at h2;cases h2
theorem aB.grow (E:.aw)(g:aZ F H F' H'):aB K Y0 Y9 F' H' σ τ:=by
 refine⟨E.g.trans g,E.len,fun i s e=>?_,E.dj⟩
 obtain⟨v,h1,h2⟩:=E.sl i s e
 exact⟨v,h1,h2.grow g⟩
theorem aB.set {i:Nat}(E:.aw)(r:.ih):aB K Y0 Y9 F H (σ.set i .cY) (.bb (.o t)):=by
 refine⟨E.g,by simp [E.len],fun j s e=>?_,fun j k ts us p a e1 e2 e3=>?_⟩
 ·by_cases P:i=j
  ·subst P
   by_cases hl:i<τ.length
   ·rw [zak hl] at e
    cases e
    exact⟨v,zak .c6,r⟩
   ·rw [List.getElem?_eq_none .i] at e;cases e
  ·rw [zal P] at e
   rw [zal P]
   exact E.sl j s e
 ·have O:i≠j:=fun z=>by
   subst z
   by_cases hl:i<τ.length
   ·rw [zak hl] at e1;cases e1
   ·rw [List.getElem?_eq_none .i] at e1;cases e1
  have C:i≠k:=fun z=>by
   subst z
   by_cases hl:i<τ.length
   ·rw [zak hl] at e2;cases e2
   ·rw [List.getElem?_eq_none .i] at e2;cases e2
  rw [zal O] at e1 e3
  rw [zal C] at e2 ⊢
  exact E.dj j k ts us p a e1 e2 e3
theorem aB.freeze {i:Nat}(E:.aw)(e:τ[i]? = some (.n ts)):
  ∃F' v,σ[i]? = some .cY/\aB K Y0 Y9 F' H σ (.bb (.o .dH))/\aJ F F'/\Rep K F' .dH v:=by
 obtain⟨v,h1,p,vs,rfl,h2,M,D,R⟩:=E.sl i _ e
 have sF:aJ F (upd F p .bn):=cX M
 have c:Rep K (upd F p .bn) .dH (.d p):=⟨p,vs,rfl,aF,aM.mono sF R⟩
 refine⟨upd F p .bn,.ref p,h1,⟨⟨E.g.sF.trans sF,E.g.sH,fun b o q=>?_,fun b o q=>?_⟩,by simp [E.len],fun j s q=>?_,fun j k us ws r a e1 e2 e3=>?_⟩,sF,c⟩
 ·by_cases z:b=p
  ·subst z;rw [aF] at q;cases q;exact h2
  ·rw [ay z] at q;exact E.g.fh _ _ q
 ·by_cases z:b=p
  ·subst z;exact .inr D
  ·rw [ay z] at q;exact E.g.nw _ _ q
 ·by_cases P:i=j
  ·subst P
   have hl:i<τ.length:=by
    have:=(zar.mp e).1
    exact this
   rw [zak hl] at q
   cases q
   exact⟨_,h1,c⟩
  ·rw [zal P] at q
   obtain⟨v,g1,g2⟩:=E.sl j s q
   refine⟨v,g1,?_⟩
   cases s with
   |sh t=>exact Rep.mono sF g2
   |own us =>
    obtain⟨r,ws,rfl,k2,k3,N,k5⟩:=g2
    have f:r≠p:=fun z=>by
     subst z
     exact E.dj i j ts us r P e q h1 g1
    exact⟨r,ws,rfl,k2,by rw [ay f];exact k3,N,aM.mono sF k5⟩
 ·have hl:i<τ.length:=(zar.mp e).1
  have O:i≠j:=fun z=>by subst z;rw [zak hl] at e1;cases e1
  have C:i≠k:=fun z=>by subst z;rw [zak hl] at e2;cases e2
  rw [zal O] at e1
  rw [zal C] at e2
  exact E.dj j k us ws r a e1 e2 e3
theorem aB.setOwn {i:Nat}(E:.aw)(n:H p=none)(r:.f4):aB K Y0 Y9 F (.Y p .bn) (σ.set i (.R p)) (.bb (.n ts)):=by
 have sH:aJ H (.Y p .bn):=cX n
 have fp:F p=none:=E.g.fh.free n
 have old:∀{j:Nat} {s:Sl},i≠j->τ[j]? = some (.aX s)->∃v,σ[j]? = some .cY/\zq K Y9 F (.Y p .bn) s v:=fun {j s} P q=>by
  obtain⟨v,g1,g2⟩:=E.sl j s q
  refine⟨v,g1,?_⟩
  cases s with
  |sh t=>exact g2
  |own us =>
   obtain⟨r,ws,rfl,k2,k3,N,k5⟩:=g2
   exact⟨r,ws,rfl,sH _ _ k2,k3,N,k5⟩
 refine⟨⟨E.g.sF,E.g.sH.trans sH,E.g.fh.trans sH,E.g.nw⟩,by simp [E.len],fun j s e=>?_,fun j k g us q a e1 e2 e3 e4=>?_⟩
 ·by_cases P:i=j
  ·subst P
   by_cases hl:i<τ.length
   ·rw [zak hl] at e
    cases e
    exact⟨.ref p,zak .c6,p,vs,rfl,aF,fp,E.g.sH.free n,r⟩
   ·rw [List.getElem?_eq_none .i] at e;cases e
  ·rw [zal P] at e
   rw [zal P]
   exact old P e
 ·by_cases P:i=j
  ·subst P
   have C:i≠k:=a
   rw [zal C] at e2 e4
   by_cases hl:i<τ.length
   ·rw [zak .c6] at e3
    cases e3
    obtain⟨v,g1,Y,ws,rfl,k2,_⟩:=E.sl k _ e2
    rw [g1] at e4;cases e4
    rw [n] at k2;cases k2
   ·rw [List.getElem?_eq_none .i] at e1;cases e1
  ·rw [zal P] at e1 e3
   by_cases hk:i=k
   ·subst hk
    by_cases hl:i<τ.length
    ·rw [zak .c6] at e4
     cases e4
     obtain⟨v,g1,Y,ws,rfl,k2,_⟩:=E.sl j _ e1
     rw [g1] at e3;cases e3
     rw [n] at k2;cases k2
    ·rw [List.getElem?_eq_none .i] at e2;cases e2
   ·rw [zal hk] at e2 e4
    exact E.dj j k g us q a e1 e2 e3 e4
theorem aB.turnOwn {i:Nat}(E:.aw)(e:τ[i]? = some (.n ts))(hp:σ[i]? = some (.R p))(r:aM K F us vs):
  aB K Y0 Y9 F (.Y p .bn) σ (.bb (.n us)):=by
 obtain⟨v,h1,d,u,rfl,h2,M,D,R⟩:=E.sl i _ e
 rw [hp] at h1;cases h1
 have hl:i<τ.length:=(zar.mp e).1
 refine⟨⟨E.g.sF,fun b o q=>?_,fun b o q=>?_,E.g.nw⟩,by simp [E.len],fun j s q=>?_,fun j k g J q a e1 e2 e3=>?_⟩
 ·rw [ay (fun z=>by subst z;rw [D] at q;cases q)];exact E.g.sH _ _ q
 ·rw [ay (fun z=>by subst z;rw [M] at q;cases q)];exact E.g.fh _ _ q
 ·by_cases P:i=j
  ·subst P
   rw [zak hl] at q;cases q
   exact⟨_,hp,p,vs,rfl,aF,M,D,r⟩
  ·rw [zal P] at q
   obtain⟨v,g1,g2⟩:=E.sl j s q
   refine⟨v,g1,?_⟩
   cases s with
   |sh t=>exact g2
   |own J =>
    obtain⟨Y,ws,rfl,k2,k3,N,k5⟩:=g2
    have f:Y≠p:=fun z=>by subst z;exact E.dj i j ts J Y P e q hp g1
    exact⟨Y,ws,rfl,by rw [ay f];exact k2,k3,N,k5⟩
 ·have q1:∃zs,τ[j]? = some (.n zs):=by
   by_cases P:i=j
   ·subst P;exact⟨_,e⟩
   ·rw [zal P] at e1;exact⟨_,e1⟩
  have q2:∃zs,τ[k]? = some (.n zs):=by
   by_cases P:i=k
   ·subst P;exact⟨_,e⟩
   ·rw [zal P] at e2;exact⟨_,e2⟩
  obtain⟨U,q1⟩:=q1
  obtain⟨c,q2⟩:=q2
  exact E.dj j k U c q a q1 q2 e3
end
abbrev FE:=az->Option (T×az)
abbrev FA:=az->Option (List T×az)
abbrev FT:=az->Option (Bool×az)
inductive R where
 |nx (τ:az) | rt (t:T) | bk (τ:az) | ct (τ:az)
abbrev FS:=az->Option R
abbrev FG:=T->az->Option az
section
variable (K:.j)(Y0 Y9:Hp)
noncomputable def tE (f:FE):TE:=fun σ H Q=>∃F τ t τ',aB K Y0 Y9 F H σ τ/\f τ=some (t,τ')/\∀F' H' v,aB K Y0 Y9 F' H' σ τ'->aJ F F'->Rep K F' t v->Q v H'
noncomputable def tA (f:FA):TA:=fun σ H Q=>∃F τ ts τ',aB K Y0 Y9 F H σ τ/\f τ=some .ib/\∀F' H' vs,aB K Y0 Y9 F' H' σ τ'->aJ F F'->aM K F' ts vs->Q vs H'
noncomputable def tT (f:FT):TT:=fun σ H Q=>∃F τ b τ',aB K Y0 Y9 F H σ τ/\f τ=some (b,τ')/\∀F' H',aB K Y0 Y9 F' H' σ τ'->aJ F F'->Q b H'
noncomputable def jf (F:Hp)(D:Ends):R->Prop
 | .nx τ'=>∀F' H' σ',aB K Y0 Y9 F' H' σ' τ'->aJ F F'->D.nx σ' H'
 | .rt t=>∀F' H' v,aZ Y0 Y9 F' H'->Rep K F' t v->D.rt v H'
 | .bk τ'=>∀F' H' σ',aB K Y0 Y9 F' H' σ' τ'->aJ F F'->D.bk σ' H'
 | .ct τ'=>∀F' H' σ',aB K Y0 Y9 F' H' σ' τ'->aJ F F'->D.ct σ' H'
def tS (f:FS):TS:=fun D σ H=>∃F τ r,aB K Y0 Y9 F H σ τ/\f τ=some r/\jf K Y0 Y9 F D r
end
def SE (X:Cx)(e:Expr)(f:FE):Prop:=∀Y0 Y9,PE X e (tE X.K Y0 Y9 f)
def SA (X:Cx)(es:.av)(f:FA):Prop:=∀Y0 Y9,PA X es (tA X.K Y0 Y9 f)
def ST (X:Cx)(e:Expr)(f:FT):Prop:=∀Y0 Y9,PT X e (tT X.K Y0 Y9 f)
def SW (X:Cx)(e:Expr)(f:FT):Prop:=∀Y0 Y9,PW X e (tT X.K Y0 Y9 f)
def SS (X:Cx)(st:Stmt)(f:FS):Prop:=∀Y0 Y9,PS X st (tS X.K Y0 Y9 f)
def vM (X:Cx)(st:.a4)(f:FS):Prop:=∀Y0 Y9,lj X st (tS X.K Y0 Y9 f)
section
variable {X:Cx}{e a b:Expr}{pos:Pos}{f fa fb:FE}
theorem PE.weak {t t':TE}(h:PE X e t)(i:∀σ H Q,t' σ H Q->t σ H Q):PE X e t':=.ec
theorem PT.weak {t t':TT}(h:PT X e t)(i:∀σ H Q,t' σ H Q->t σ H Q):PT X e t':=.ec
theorem PW.weak {t t':TT}(h:PW X e t)(i:∀σ H Q,t' σ H Q->t σ H Q):PW X e t':=fun d pins s σ H Q I q=>h d pins s σ H Q I (i σ H Q q)
theorem PA.weak {t t':TA}(h:PA X es t)(i:∀σ H Q,t' σ H Q->t σ H Q):PA X es t':=fun p pins s σ H Q I q=>h p pins s σ H Q I (i σ H Q q)
theorem PS.weak {st:Stmt}{t t':TS}(h:PS X st t)(i:∀D σ H,t' D σ H->t D σ H):PS X st t':=fun pins s σ H D I q=>h pins s σ H D I (i D σ H q)
theorem lj.weak {st:.a4}{t t':TS}(h:lj X st t)(i:∀D σ H,t' D σ H->t D σ H):lj X st t':=fun pins s σ H D I q=>h pins s σ H D I (i D σ H q)
def fC (t:T):FE:=fun τ=>some (t,τ)
noncomputable def ae (i:Nat):FE:=fun τ=>match τ[i]? with
 |some (.o t)=>some (t,τ)
 |some (.n ts)=>some (.lst ts,τ.set i (.o .dH))
 |_=>none
theorem gO (h:PE X e (tC v))(r:∀F,Rep X.K F t v):SE X e (fC t):=fun Y0 Y9=>PE.weak h fun σ H Q G=>by
 obtain⟨F,τ,t',τ',E,e1,q⟩:=G
 cases e1
 exact q F H v E .dQ (r F)
theorem au {i:Int}{j}:SE X (.bj .eQ) (fC .eQ):=gO MZ fun _=>rfl
theorem jJ {c:Bool}{j}:SE X (.bj (.bool c)) (fC (.bl c)):=gO PY fun _=>rfl
theorem ou {j}:SE X (.Constant .none j pos) .it:=gO M0 fun _=>rfl
theorem aY {j}:SE X (.bj .fM) (fC .fM):=gO M6 fun _=>rfl
theorem aa (i:Nat)(h:PE X .fB (uA i)):SE X .fB (ae i):=fun Y0 Y9=>PE.weak h fun σ H Q G=>by
 obtain⟨F,τ,t,τ',E,e1,q⟩:=G
 unfold ae at e1
 split at e1
 ·next t' e2 =>
  cases e1
  obtain⟨v,h1,h2⟩:=E.sl i _ e2
  exact⟨v,h1,q F H v E .dQ h2⟩
 ·next ts e2 =>
  cases e1
  obtain⟨F',v,h1,Z,sF,r⟩:=E.freeze e2
  exact⟨v,h1,q F' H v Z sF r⟩
 ·cases e1
theorem qT (L:Gl X x)(hm:X.mg x=none)(Z:bootBuiltins x=some (.type n))(hn:x≠"__name__" := by decide)(hd:.M=false:=by decide):SE X .fB (fC (.ty n)):=
 gO (Kr (v:=.ty n) L hm Z rfl hn hd) fun _=>rfl
noncomputable def Nn (K:.j)(g:.cX):R2:=fun x y H Q=>∃F a b t,aJ F H/\Rep K F a x/\Rep K F b y/\g a b=some t/\∀F' H' v,aZ F H F' H'->Rep K F' t v->Q v H'
noncomputable def Ul (K:.j)(g:T->Option T):V->Hp->VK->Prop:=fun x H Q=>∃F a t,aJ F H/\Rep K F a x/\g a=some t/\∀F' H' v,aZ F H F' H'->Rep K F' t v->Q v H'
noncomputable def Rw (K:.j)(g:.Y):List V->Hp->VK->Prop:=fun xs H Q=>∃F ts t,aJ F H/\aM K F ts xs/\g ts=some t/\∀F' H' v,aZ F H F' H'->Rep K F' t v->Q v H'
abbrev lh (X:Cx)(f:.ef)(g:.cX):Prop:=pS X f (Nn X.K g)
abbrev Tu (X:Cx)(f:Value->Sem Value)(g:T->Option T):Prop:=QR X f (Ul X.K g)
abbrev gf (X:Cx)(f:Value)(g:.Y):Prop:=fR X f (Rw X.K g)
noncomputable def ar (g:.cX)(fa fb:FE):FE:=fun τ=>(fa τ).bind fun p=>(fb p.2).bind fun q=>(g p.1 q.1).bind fun t=>some (t,q.2)
def xy (g:T->Option T)(fa:FE):FE:=fun τ=>(fa τ).bind fun p=>(g p.1).bind fun t=>some (t,p.2)
theorem bind_some {α c:Type}{o:Option α}{f:α->Option c}{z:c}(h:o.bind f=some z):∃x,o=some x/\f x=some z:=by
 cases o with
 |none=>cases h
 |some x=>exact⟨x,rfl,h⟩
theorem rP {g:.cX}{Y0 Y9:Hp}{σ:L2.St}{H:Hp}{Q:VK}(h:tE X.K Y0 Y9 (ar g fa fb) σ H Q):Qz (Nn X.K g) (tE X.K Y0 Y9 fa) (tE X.K Y0 Y9 fb) σ H Q:=by
 obtain⟨F,τ,t,τ',E,e1,q⟩:=h
 obtain⟨⟨x,τ1⟩,e2,e1⟩:=bind_some e1
 obtain⟨⟨y,τ2⟩,e3,e1⟩:=bind_some e1
 obtain⟨z,e4,e1⟩:=bind_some e1
 cases e1
 refine⟨F,τ,x,τ1,E,e2,fun F1 H1 l V s1 r1=>⟨F1,τ1,y,_,V,e3,fun F2 H2 i O s2 r2=>?_⟩⟩
 exact⟨F2,x,y,t,O.g.fh,Rep.mono s2 r1,r2,e4,fun F3 H3 J B r3=>q F3 H3 J (O.grow B) ((s1.trans s2).trans B.sF) r3⟩
theorem aV (ho:lh X (binaryOp op) g)(ha:.gB)(hb:SE X b fb):SE X (.BinOp a op b pos) (ar g fa fb):=
 fun Y0 Y9=>PE.weak (P1 ho .bT .c4) fun _ _ _=>rP
theorem II {i:UnaryOp}{g:T->Option T}(ho:Tu X (unaryOp i) g)(ha:.gB):SE X (.UnaryOp i a pos) (xy g fa):=
 fun Y0 Y9=>PE.weak (P4 ho .bT) fun σ H Q G=>by
  obtain⟨F,τ,t,τ',E,e1,q⟩:=G
  obtain⟨⟨x,τ1⟩,e2,e1⟩:=bind_some e1
  obtain⟨z,e4,e1⟩:=bind_some e1
  cases e1
  exact⟨F,τ,x,_,E,e2,fun F1 H1 l V s1 r1=>⟨F1,x,t,V.g.fh,r1,e4,fun F3 H3 J B r3=>q F3 H3 J (V.grow B) (s1.trans B.sF) r3⟩⟩
theorem gy (ho:lh X (.ag op) g)(ha:.gB)(hb:SE X b fb)(hm:behindInMarks op b=false):SE X (.Compare a [op] [b] pos) (ar g fa fb):=
 fun Y0 Y9=>PE.weak (Ks ho .bT .c4 hm) fun _ _ _=>rP
theorem br (ho:N0 X (Nn X.K g))(ha:.gB)(hb:SE X b fb)(hs:CV b):SE X (.X a b) (ar g fa fb):=
 fun Y0 Y9=>PE.weak (PZ ho .bT .c4 hs) fun _ _ _=>rP
def bR (f:FE):FT:=fun τ=>(f τ).bind fun p=>match p.1 with | .bl c=>some (c,p.2) | _=>none
noncomputable def Ol:T->Option Bool
 | .non=>some false
 | .bl c=>some c
 | .int i=>some (i != 0)
 | .str x=>if x.length≤sizeLine then some ((x.length:Int) != 0) else none
 | .tup ts=>some (!ts.isEmpty)
 | .lst ts=>some (!ts.isEmpty)
 | .scr ts=>some (!ts.isEmpty)
 | .dct _ _=>none
 | .obj _ _ _=>none
 | .ptr _=>none
 | .exc _ _ _=>none
 | .ty _=>none
def bU (f:FE):FT:=fun τ=>(f τ).bind fun p=>(Ol p.1).bind fun c=>some (c,p.2)
theorem bb {i:CmpOp}{g:.cX}(ho:lh X (.ag i) g)(ha:.gB)(hb:SE X b fb)(hm:behindInMarks i b=false):ST X .gX (bR (ar g fa fb)):=
 fun Y0 Y9=>PT.weak (KG ho .bT .c4 hm) fun σ H Q G=>by
  obtain⟨F,τ,c,τ',E,e1,q⟩:=G
  obtain⟨⟨x,τ1⟩,e2,e1⟩:=bind_some e1
  dsimp only at e1
  split at e1
  ·cases e1
   refine rP (Q:=fun x H'=>∃k,x=V.bl k/\Q k H') ⟨F,τ,_,_,E,e2,fun F' H' v Z s' Y=>?_⟩
   exact⟨c,Y,q F' H' Z s'⟩
  ·cases e1
theorem jZ {K:.j}{F:Hp}{ts:List T}{vs:List V}(h:.f4):vs.isEmpty=ts.isEmpty:=by
 cases ts with
 |nil=>cases h;rfl
 |cons t ts=>obtain⟨v,r,rfl,_⟩:=h;rfl
theorem Lb {K:.j}{F H:Hp}{t:T}{v:V}{c:Bool}(s:aJ F H)(r:.ih)(e:Ol t=some c):LY K v H c:=by
 cases t with
 |non=>cases r;cases e;exact rfl
 |bl _=>cases r;cases e;exact rfl
 |int _=>cases r;cases e;exact rfl
 |str x =>
  cases r
  simp only [Ol] at e
  split at e
  ·next h=>cases e;exact⟨h,rfl⟩
  ·cases e
 |ty _=>cases e
 |tup ts =>
  obtain⟨p,xs,rfl,h1,h2⟩:=r
  cases e
  exact .a1 (.inl ⟨xs,bZ s h1,by rw [jZ h2]⟩)
 |lst ts =>
  obtain⟨p,xs,rfl,h1,h2⟩:=r
  cases e
  exact .inl ⟨xs,gE.of (s _ _ h1),by rw [jZ h2]⟩
 |scr ts =>
  obtain⟨p,xs,rfl,h1,h2⟩:=r
  cases e
  exact .inl ⟨xs,s.seq h1,by rw [jZ h2]⟩
 |dct _ _=>cases e
 |obj _ _ _=>cases e
 |ptr _=>cases e
 |exc _ _ _=>cases e
theorem ck (h:.fx)(he:∀whole,isTrue e X.env whole=(do let v <- whole;standAt e.pos;holding [v] (truthy v)):=by intro _;rfl):ST X e (bU f):=
 fun Y0 Y9=>PT.weak (IC .cT he) fun σ H Q G=>by
  obtain⟨F,τ,c,τ',E,e1,q⟩:=G
  obtain⟨⟨x,τ1⟩,e2,e1⟩:=bind_some e1
  obtain⟨z,e4,e1⟩:=bind_some e1
  cases e1
  exact⟨F,τ,x,_,E,e2,fun F1 H1 l V s1 r1=>⟨c,Lb V.g.fh r1 e4,q F1 H1 V s1⟩⟩
variable {ta tb:FT}{rest:.av}
def gS (ta tb:FT):FT:=fun τ=>(ta τ).bind fun p=>if p.1=true then tb p.2 else some (false,p.2)
def uO (ta tb:FT):FT:=fun τ=>(ta τ).bind fun p=>if p.1=true then some (true,p.2) else tb p.2
def gK (ta:FT):FT:=fun τ=>(ta τ).bind fun p=>some (!p.1,p.2)
theorem gD (h:ST X a ta):ST X .iC (gK ta):=fun Y0 Y9=>PT.weak (Ni .cT) fun σ H Q G=>by
 obtain⟨F,τ,c,τ',E,e1,q⟩:=G
 obtain⟨⟨x,τ1⟩,e2,e1⟩:=bind_some e1
 cases e1
 exact⟨F,τ,x,_,E,e2,fun F1 H1 V s1=>q F1 H1 V s1⟩
theorem fZ (h:ST X a ta):SW X (.BoolOp .And [a] pos) ta:=fun Y0 Y9=>KI .cT
theorem iM (h:ST X a ta):SW X (.BoolOp .Or [a] pos) ta:=fun Y0 Y9=>Nk .cT
theorem iK (ha:ST X a ta)(hb:SW X .fO tb):SW X .e3 (gS ta tb):=fun Y0 Y9=>PW.weak (Nj .bT .c4) fun σ H Q G=>by
 obtain⟨F,τ,c,τ',E,e1,q⟩:=G
 obtain⟨⟨x,τ1⟩,e2,e1⟩:=bind_some e1
 refine⟨F,τ,x,τ1,E,e2,fun F1 H1 V s1=>?_⟩
 dsimp only at e1
 split at e1
 ·next h=>rw [if_pos h];exact⟨F1,τ1,c,τ',V,e1,fun F2 H2 O s2=>q F2 H2 O .a5⟩
 ·next h=>rw [if_neg h];cases e1;exact q F1 H1 V s1
theorem iL (ha:ST X a ta)(hb:SW X .f2 tb):SW X .fe (uO ta tb):=fun Y0 Y9=>PW.weak (P7 .bT .c4) fun σ H Q G=>by
 obtain⟨F,τ,c,τ',E,e1,q⟩:=G
 obtain⟨⟨x,τ1⟩,e2,e1⟩:=bind_some e1
 refine⟨F,τ,x,τ1,E,e2,fun F1 H1 V s1=>?_⟩
 dsimp only at e1
 split at e1
 ·next h=>rw [if_pos h];cases e1;exact q F1 H1 V s1
 ·next h=>rw [if_neg h];exact⟨F1,τ1,c,τ',V,e1,fun F2 H2 O s2=>q F2 H2 O .a5⟩
theorem SW.st (h:SW X e ta):ST X e ta:=fun Y0 Y9=>(h Y0 Y9).pt
noncomputable def iz (fa fb:FE):FE:=fun τ=>(fa τ).bind fun p=>match p.1 with | .bl true=>fb p.2 | .bl false=>some (.bl false,p.2) | _=>none
noncomputable def BG (fa fb:FE):FE:=fun τ=>(fa τ).bind fun p=>match p.1 with | .bl true=>some (.iG,p.2) | .bl false=>fb p.2 | _=>none
def JL:T->Option T
 | .bl c=>some (.bl (!c))
 |_=>none
theorem oy {op}(h:.gB):SE X (.BoolOp op [a] pos) fa:=fun Y0 Y9=>M4 .cT
theorem mI (ha:.gB)(hb:SE X .fO fb):SE X .e3 (iz fa fb):=fun Y0 Y9=>PE.weak (MW .bT .c4) fun σ H Q G=>by
 obtain⟨F,τ,c,τ',E,e1,q⟩:=G
 obtain⟨⟨x,τ1⟩,e2,e1⟩:=bind_some e1
 dsimp only at e1
 refine⟨F,τ,x,τ1,E,e2,fun F1 H1 v V s1 r1=>?_⟩
 split at e1
 ·cases r1;exact⟨true,rfl,by rw [if_pos rfl];exact⟨F1,τ1,c,τ',V,e1,fun F2 H2 i O s2=>q F2 H2 i O .a5⟩⟩
 ·cases r1;cases e1;exact⟨false,rfl,by rw [if_neg .e];exact q F1 H1 _ V s1 rfl⟩
 ·cases e1
theorem Qk (ha:.gB)(hb:SE X .f2 fb):SE X .fe (BG fa fb):=fun Y0 Y9=>PE.weak (P2 .bT .c4) fun σ H Q G=>by
 obtain⟨F,τ,c,τ',E,e1,q⟩:=G
 obtain⟨⟨x,τ1⟩,e2,e1⟩:=bind_some e1
 dsimp only at e1
 refine⟨F,τ,x,τ1,E,e2,fun F1 H1 v V s1 r1=>?_⟩
 split at e1
 ·cases r1;cases e1;exact⟨true,rfl,by rw [if_pos rfl];exact q F1 H1 _ V s1 rfl⟩
 ·cases r1;exact⟨false,rfl,by rw [if_neg .e];exact⟨F1,τ1,c,τ',V,e1,fun F2 H2 i O s2=>q F2 H2 i O .a5⟩⟩
 ·cases e1
theorem Nu (ha:.gB):SE X .iC (xy JL fa):=fun Y0 Y9=>PE.weak (M3 .bT) fun σ H Q G=>by
 obtain⟨F,τ,c,τ',E,e1,q⟩:=G
 obtain⟨⟨x,τ1⟩,e2,e1⟩:=bind_some e1
 obtain⟨z,e4,e1⟩:=bind_some e1
 cases e1
 refine⟨F,τ,x,_,E,e2,fun F1 H1 v V s1 r1=>?_⟩
 dsimp only at e4
 unfold JL at e4
 split at e4
 ·cases r1;cases e4;exact⟨_,rfl,q F1 H1 _ V s1 rfl⟩
 ·cases e4
def zk (t:FT)(fa fb:FE):FE:=fun τ=>(t τ).bind fun p=>if p.1=true then fa p.2 else fb p.2
theorem wL {c:Expr}(U:ST X c ta)(ha:.gB)(hb:SE X b fb):SE X (.IfExp c a b pos) (zk ta fa fb):=fun Y0 Y9=>PE.weak (Ip (U Y0 Y9) .bT .c4) fun σ H Q G=>by
 obtain⟨F,τ,c,τ',E,e1,q⟩:=G
 obtain⟨⟨x,τ1⟩,e2,e1⟩:=bind_some e1
 refine⟨F,τ,x,τ1,E,e2,fun F1 H1 V s1=>?_⟩
 dsimp only at e1
 split at e1
 ·next h=>rw [if_pos h];exact⟨F1,τ1,c,τ',V,e1,fun F2 H2 i O s2=>q F2 H2 i O .a5⟩
 ·next h=>rw [if_neg h];exact⟨F1,τ1,c,τ',V,e1,fun F2 H2 i O s2=>q F2 H2 i O .a5⟩
variable {es:.av}{g:FA}
def ao:FA:=fun τ=>some ([],τ)
def ag (f:FE)(g:FA):FA:=fun τ=>(f τ).bind fun p=>(g p.2).bind fun q=>some (p.1::q.1,q.2)
theorem aj:SA X [] ao:=fun Y0 Y9=>PA.weak ue fun σ H Q G=>by
 obtain⟨F,τ,c,τ',E,e1,q⟩:=G
 cases e1
 exact q F H [] E .dQ rfl
theorem af (ha:.fx)(hr:SA X es g)(hs:starEach (e::es) X.env=(.p e)::starEach es X.env:=by rfl):SA X (e::es) (ag f g):=fun Y0 Y9=>PA.weak (kl .bT (hr Y0 Y9) hs) fun σ H Q G=>by
 obtain⟨F,τ,c,τ',E,e1,q⟩:=G
 obtain⟨⟨x,τ1⟩,e2,e1⟩:=bind_some e1
 obtain⟨⟨y,τ2⟩,e3,e1⟩:=bind_some e1
 cases e1
 exact⟨F,τ,x,τ1,E,e2,fun F1 H1 v V s1 r1=>⟨F1,τ1,y,_,V,e3,fun F2 H2 vs O s2 r2=>q F2 H2 _ O .a5 ⟨v,vs,rfl,Rep.mono s2 r1,r2⟩⟩⟩
noncomputable def dz (g:FA):FE:=fun τ=>(g τ).bind fun p=>if p.1.length≤sizeLine then some (.tup p.1,p.2) else none
noncomputable def eI (g:FA):FE:=fun τ=>(g τ).bind fun p=>if p.1.length≤sizeLine then some (.lst p.1,p.2) else none
theorem er {k}(h:SA X es g):SE X .gf (dz g):=fun Y0 Y9=>PE.weak (M7 .cT) fun σ H Q G=>by
 obtain⟨F,τ,c,τ',E,e1,q⟩:=G
 obtain⟨⟨x,τ1⟩,e2,e1⟩:=bind_some e1
 dsimp only at e1
 split at e1
 ·next hl =>
  cases e1
  refine⟨F,τ,x,_,E,e2,fun F1 H1 vs V s1 r1=>⟨by rw [r1.length];exact hl,fun p hp=>?_⟩⟩
  have A:=aZ.new (.tup vs) V.g.fh hp
  exact q _ _ _ (V.grow A) .hs ⟨p,vs,rfl,mQ.of aF,aM.mono A.sF r1⟩
 ·cases e1
theorem hV (h:SA X es g):SE X (.List es pos) (eI g):=fun Y0 Y9=>PE.weak (Iq .cT) fun σ H Q G=>by
 obtain⟨F,τ,c,τ',E,e1,q⟩:=G
 obtain⟨⟨x,τ1⟩,e2,e1⟩:=bind_some e1
 dsimp only at e1
 split at e1
 ·next hl =>
  cases e1
  refine⟨F,τ,x,_,E,e2,fun F1 H1 vs V s1 r1=>⟨by rw [r1.length];exact hl,fun p hp=>?_⟩⟩
  have A:=aZ.new .bn V.g.fh hp
  exact q _ _ _ (V.grow A) .hs ⟨p,vs,rfl,aF,aM.mono A.sF r1⟩
 ·cases e1
def ai (d:.Y)(g:FA):FE:=fun τ=>(g τ).bind fun p=>(d p.1).bind fun t=>some (t,p.2)
theorem vY {d:.Y}{Y0 Y9:Hp}{σ:L2.St}{H:Hp}{Q:VK}(h:tE X.K Y0 Y9 (ai d g) σ H Q):tA X.K Y0 Y9 g σ H fun vs H1=>Rw X.K d vs H1 Q:=by
 obtain⟨F,τ,c,τ',E,e1,q⟩:=h
 obtain⟨⟨x,τ1⟩,e2,e1⟩:=bind_some e1
 obtain⟨z,e4,e1⟩:=bind_some e1
 cases e1
 exact⟨F,τ,x,_,E,e2,fun F1 H1 vs V s1 r1=>⟨F1,x,c,V.g.fh,r1,e4,fun F3 H3 J B r3=>q F3 H3 J (V.grow B) (s1.trans B.sF) r3⟩⟩
theorem aI {d:.Y}{id:String}{x:Str}{p:Pos}(U:gf X .d5 d)(L:Gl X x)(hm:X.mg x=none)(Z:bootBuiltins x=some .d5)(ha:SA X (e::es) g)(hn:x≠"__name__" := by decide)(G:.M=false:=by decide)
  (he:starEach (e::es) X.env=(.p e)::starEach es X.env:=by rfl) (l:(backTo pos .bm).any (·.1)=false:=by rfl):SE X .aP (ai d g):=
 fun Y0 Y9=>PE.weak (AH U L hm Z .bT hn G he l) fun _ _ _=>vY
theorem bP {d:.Y}{id:String}{x:Str}{p:Pos}(U:gf X (.type id) d)(L:Gl X x)(hm:X.mg x=none)(Z:bootBuiltins x=some (.type id))(ha:SA X (e::es) g)(hn:x≠"__name__" := by decide)(G:.M=false:=by decide)
  (he:starEach (e::es) X.env=(.p e)::starEach es X.env:=by rfl) (l:(backTo pos .bm).any (·.1)=false:=by rfl):SE X .aP (ai d g):=
 fun Y0 Y9=>PE.weak (Fw U L hm Z .bT hn G he l) fun _ _ _=>vY
end
def spT (K:.j)(n:Nat)(d:.Y):Sp:=fun vs H Q _=>vs.length=n/\Rw K d vs H Q
structure Def (P:.ai)(w:World)(K:.j)(mg:.G)(base:Heap)(k:Nat)(x:Str)(n:Nat)(d:.Y):Prop where
 ex:∃f fd ps,iO P w K mg base uQ k f fd ps (spT K n d)/\Binds K fd ps []/\PySem.W.keepIn K (.d f)=true/\mg x=some (.d f)/\ps.length=n
theorem Def.imp {P:.ai}{w:World}{K:.j}{mg:.G}{base:Heap}{k n:Nat}{x:Str}{d d':.Y}(D:Def P w K mg base k x n d)(h:∀ts t,d' ts=some t->d ts=some t):Def P w K mg base k x n d':=by
 obtain⟨f,fd,ps,F,r⟩:=D.ex
 exact⟨f,fd,ps,F.imp fun vs H Q E ⟨l,F,ts,t,a,b,c,q⟩=>⟨l,F,ts,t,a,b,h _ _ c,q⟩,r⟩
theorem Def.mono {P:.ai}{w:World}{K:.j}{mg:.G}{base:Heap}{j k n:Nat}{x:Str}{d:.Y}(D:Def P w K mg base j x n d)(h:j≤k):Def P w K mg base k x n d:=by
 obtain⟨f,fd,ps,F,r⟩:=D.ex
 exact⟨f,fd,ps,F.mono h,r⟩
theorem Def.zero {P:.ai}{w:World}{K:.j}{mg:.G}{base:Heap}{x qual:Str}{st:Stmt}{f:Addr}{fd:.e7}{ps:.U}(F:.dD)(hb:.i2)(hm:mg x=some (.d f)):Def P w K mg base 0 x ps.length .ja:=
 ⟨f,fd,ps,⟨fun vs H Q E h=>h.1,fun A outer s H args us vs Q E _ _ _ _ h=>by obtain⟨_,F,ts,t,_,_,e,_⟩:=h;cases e⟩,hb,F.kp,hm,rfl⟩
section
variable {X:Cx}{e:Expr}{es:.av}{pos:Pos}{g:FA}
theorem aT {k n:Nat}{x:Str}{p:Pos}{d:.Y}(D:Def X.prog X.w X.K X.mg X.base k x n d)(hr:eG k X.A)(L:Gl X x)(ha:SA X (e::es) g)(hl:∀τ ts τ',g τ=some .ib->ts.length=n)(G:.M=false:=by decide)
  (he:starEach (e::es) X.env=(.p e)::starEach es X.env:=by rfl) (l:(backTo pos .bm).any (·.1)=false:=by rfl):SE X .aP (ai d g):=by
 obtain⟨f,fd,ps,F,hb,hk,hm,hn⟩:=D.ex
 intro Y0 Y9
 refine PE.weak (DW (E:=E0) (CX:=uQ) F hr L hm hk hb .nil AG .bT G he l) fun σ H Q h=>?_
 obtain⟨F,τ,c,τ',E,e1,q⟩:=h
 obtain⟨⟨z,τ1⟩,e2,e1⟩:=bind_some e1
 have hz:=hl _ _ _ e2
 obtain⟨u,e4,e1⟩:=bind_some e1
 cases e1
 refine⟨F,τ,z,_,E,e2,fun F1 H1 vs V s1 r1=>⟨by rw [zaw,r1.length];exact hz,F1,z,c,V.g.fh,by rw [zaw];exact r1,e4,fun F3 H3 J B r3=>q F3 H3 J (V.grow B) (s1.trans B.sF) r3⟩⟩
theorem aN:∀τ ts τ',ao τ=some .ib->ts.length=0:=fun _ _ _ h=>by cases h;rfl
theorem ak {f:FE}{g:FA}{n:Nat}(h:∀τ ts τ',g τ=some .ib->ts.length=n):∀τ ts τ',ag f g τ=some .ib->ts.length=n+1:=fun τ ts τ' e=>by
 obtain⟨⟨x,τ1⟩,e2,e1⟩:=bind_some e
 obtain⟨⟨y,τ2⟩,e3,e1⟩:=bind_some e1
 cases e1
 simp [h _ _ _ e3]
end
section
variable {X:Cx}{e a b:Expr}{pos:Pos}{f fa fb:FE}{ga:FA}{es:.av}
def gi:FS:=fun _=>none
def bK:FS:=fun τ=>some (.nx τ)
def bo (f:FE):FS:=fun τ=>(f τ).bind fun p=>some (.rt p.1)
def wg (f:FE):FS:=fun τ=>(f τ).bind fun p=>some (.nx p.2)
def cG (c:FT)(t u:FS):FS:=fun τ=>(c τ).bind fun p=>if p.1=true then t p.2 else u p.2
def aL (t u:FS):FS:=fun τ=>(t τ).bind fun r=>match r with | .nx τ'=>u τ' | r=>some r
theorem jf.mono {K:.j}{Y0 Y9 F F':Hp}{D:Ends}{r:R}(s:aJ F F')(h:jf K Y0 Y9 F D r):jf K Y0 Y9 F' D r:=by
 cases r with
 |nx τ=>exact fun F1 H1 w V s1=>h F1 H1 w V (s.trans s1)
 |rt t=>exact h
 |bk τ=>exact fun F1 H1 w V s1=>h F1 H1 w V (s.trans s1)
 |ct τ=>exact fun F1 H1 w V s1=>h F1 H1 w V (s.trans s1)
theorem gP {st:Stmt}:SS X st gi:=fun Y0 Y9=>PS.weak Iz fun D σ H ⟨F,τ,r,E,e1,q⟩=>by cases e1
theorem aP (h:.fx):SS X (.Return (.aX e) pos) (bo f):=fun Y0 Y9=>PS.weak (Cn .cT) fun D σ H G=>by
 obtain⟨F,τ,r,E,e1,q⟩:=G
 obtain⟨⟨x,τ1⟩,e2,e1⟩:=bind_some e1
 cases e1
 exact⟨F,τ,x,τ1,E,e2,fun F' H' v Z s' Y=>q F' H' v Z.g Y⟩
theorem El (h:.fx)(hs:swapsWith e none pos.line X.env=pure false:=by rfl):SS X (.Expr e pos) (wg f):=fun Y0 Y9=>PS.weak (pf .cT hs) fun D σ H G=>by
 obtain⟨F,τ,r,E,e1,q⟩:=G
 obtain⟨⟨x,τ1⟩,e2,e1⟩:=bind_some e1
 cases e1
 exact⟨F,τ,x,τ1,E,e2,fun F' H' v Z s' Y=>q F' H' σ Z s'⟩
theorem cL (U:ST X c tc)(ha:vM X ss t)(hb:vM X us u):SS X (.If c ss us pos) (cG tc t u):=fun Y0 Y9=>PS.weak (AK (U Y0 Y9) .bT .c4) fun D σ H G=>by
 obtain⟨F,τ,r,E,e1,q⟩:=G
 obtain⟨⟨x,τ1⟩,e2,e1⟩:=bind_some e1
 refine⟨F,τ,x,τ1,E,e2,fun F' H' Z s'=>?_⟩
 dsimp only at e1
 split at e1
 ·next h=>rw [if_pos h];exact⟨F',τ1,r,Z,e1,q.mono s'⟩
 ·next h=>rw [if_neg h];exact⟨F',τ1,r,Z,e1,q.mono s'⟩
theorem bA:vM X [] bK:=fun Y0 Y9=>lj.weak ph fun D σ H G=>by
 obtain⟨F,τ,r,E,e1,q⟩:=G
 cases e1
 exact q F H σ E .dQ
theorem aq {st:Stmt}{rest:.a4}{t u:FS}(h1:SS X st t)(h2:vM X rest u):vM X (st::rest) (aL t u):=fun Y0 Y9=>lj.weak .gh fun D σ H G=>by
 obtain⟨F,τ,r,E,e1,q⟩:=G
 obtain⟨x,e2,e1⟩:=bind_some e1
 refine⟨F,τ,x,E,e2,?_⟩
 cases x with
 |nx τ1=>exact fun F1 H1 w V s1=>⟨F1,τ1,r,V,e1,q.mono s1⟩
 |rt t=>cases e1;exact q
 |bk t=>cases e1;exact q
 |ct t=>cases e1;exact q
theorem aw {st:Stmt}{t:FS}(h1:SS X st t):vM X [st] t:=fun Y0 Y9=>rR (h1 Y0 Y9)
def cj (i:Nat)(f:FE):FS:=fun τ=>(f τ).bind fun p=>some (.nx (p.2.set i (.aX (.sh p.1))))
noncomputable def bN (i:Nat)(g:FA):FS:=fun τ=>(g τ).bind fun p=>if p.1.length≤sizeLine then some (.nx (p.2.set i (.aX (.own p.1)))) else none
theorem cb (i:Nat)(J:.eM)(hi:X.N[i]? = some x)(hx:.ej)(he:.fx)(hs:swapsWith e (.aX (.af pos')) pos.line X.env=pure false:=by rfl)
  (hf:X.fn x=true\/X.env.scope.names.lookup x=some .local:=by first | exact .inl rfl | exact .inr rfl | assumption):SS X (.aW e) (cj i f):=fun Y0 Y9=>PS.weak (ug J hi hx .eB hs hf) fun D σ H G=>by
 obtain⟨F,τ,r,E,e1,q⟩:=G
 obtain⟨⟨y,τ1⟩,e2,e1⟩:=bind_some e1
 cases e1
 exact⟨F,τ,y,τ1,E,e2,fun F' H' v Z s' Y=>q F' H' _ (Z.set Y) s'⟩
theorem ei (i:Nat)(J:.eM)(hi:X.N[i]? = some x)(hx:.ej)(he:SA X es ga)(hs:swapsWith (.List es p2) (.aX (.af pos')) pos.line X.env=pure false:=by rfl)
  (hf:X.fn x=true\/X.env.scope.names.lookup x=some .local:=by first | exact .inl rfl | exact .inr rfl | assumption):SS X (.aW (.List es p2)) (bN i ga):=fun Y0 Y9=>PS.weak (ug J hi hx (Iq .eB) hs hf) fun D σ H G=>by
 obtain⟨F,τ,r,E,e1,q⟩:=G
 obtain⟨⟨y,τ1⟩,e2,e1⟩:=bind_some e1
 dsimp only at e1
 split at e1
 ·next hl =>
  cases e1
  exact⟨F,τ,y,τ1,E,e2,fun F' H' vs Z s' Y=>⟨by rw [Y.length];exact hl,fun p hp=>q F' _ _ (Z.setOwn hp Y) s'⟩⟩
 ·cases e1
noncomputable def tG (K:.j)(Y0 Y9:Hp)(fg:FG):TG:=fun v σ H Q=>∃F τ t τ',aB K Y0 Y9 F H σ τ/\Rep K F t v/\fg t τ=some τ'/\∀F' H' σ',aB K Y0 Y9 F' H' σ' τ'->aJ F F'->Q σ' H'
noncomputable def Ur (K:.j)(Y0 Y9:Hp)(fg:.bH):Jj:=fun vs σ H Q=>∃F τ ts τ',aB K Y0 Y9 F H σ τ/\aM K F ts vs/\fg ts τ=some τ'/\∀F' H' σ',aB K Y0 Y9 F' H' σ' τ'->aJ F F'->Q σ' H'
def SG (X:Cx)(tg:Expr)(fg:FG):Prop:=∀Y0 Y9,PG X tg (tG X.K Y0 Y9 fg)
def LW (X:Cx)(tg:.av)(fg:.bH):Prop:=∀Y0 Y9,N1 X tg (Ur X.K Y0 Y9 fg)
def ah (i:Nat):FG:=fun t τ=>some (.bb (.o t))
def bS:List T->az->Option az
 |[],τ=>some τ
 |_::_,_=>none
def aD (g:FG)(d:.bH):List T->az->Option az
 |[],_=>none
 |t::ts,τ=>(g t τ).bind fun τ1=>d ts τ1
def cu (d:.bH):FG:=fun t τ=>match t with
 | .tup ts=>d ts τ
 |_=>none
theorem aE (i:Nat)(J:.eM)(hi:X.N[i]? = some x)(hx:.ej)(hf:X.fn x=true\/X.env.scope.names.lookup x=some .local:=by first | exact .inl rfl | exact .inr rfl | assumption):SG X .fB (ah i):=
 fun Y0 Y9 pins s σ H v u Q I r h=>Kv J hi hx hf pins s σ H v u Q I r (by
  obtain⟨F,τ,t,τ',E,rt,e1,q⟩:=h
  cases e1
  exact q F H _ (E.set rt) .dQ)
theorem dw:LW X [] bS:=fun Y0 Y9 pins s σ H vs us Q I r h=>Kw pins s σ H vs us Q I r (by
 obtain⟨F,τ,ts,τ',E,rt,e1,q⟩:=h
 cases ts with
 |nil=>cases e1;cases rt;exact⟨rfl,q F H σ E .dQ⟩
 | cons t ts=>cases e1)
theorem bc (h1:SG X e g)(h2:LW X es d)(hs:(assignEach (e::es) X.env).map (·.2)=assign e X.env::(assignEach es X.env).map (·.2):=by rfl):LW X (e::es) (aD g d):=
 fun Y0 Y9 pins s σ H vs us Q I r h=>Iu (h1 Y0 Y9) (h2 Y0 Y9) hs pins s σ H vs us Q I r (by
  obtain⟨F,τ,ts,τ',E,rt,e1,q⟩:=h
  cases ts with
  |nil=>cases e1
  |cons t ts =>
   obtain⟨v,y,rfl,r1,r2⟩:=rt
   obtain⟨τ1,e2,e1⟩:=bind_some e1
   exact⟨v,y,rfl,F,τ,t,τ1,E,r1,e2,fun F' H' σ' Z s'=>⟨F',τ1,ts,τ',Z,aM.mono s' r2,e1,fun F2 H2 l O s2=>q F2 H2 l O .i8⟩⟩)
theorem eZ:∀ts τ τ',bS ts τ=some τ'->ts.length=0:=fun ts τ τ' h=>by cases ts<;>first | rfl | cases h
theorem bq {d:.bH}{n:Nat}(h:∀ts τ τ',d ts τ=some τ'->ts.length=n):∀ts τ τ',aD g d ts τ=some τ'->ts.length=n+1:=fun ts τ τ' e=>by
 cases ts with
 |nil=>cases e
 |cons t ts =>
  obtain⟨τ1,e2,e1⟩:=bind_some e
  simp [h _ _ _ e1]
theorem ff {k:Nat}{n:Nat}(U:.bp)(h:LW X es d)(hl:∀ts τ τ',d ts τ=some τ'->ts.length=n)
  (hn:(assignEach es X.env).length=n:=by rfl) (g:(assignEach es X.env).findIdx? (·.1)=none:=by rfl):SG X .gf (cu d):=
 fun Y0 Y9 pins s σ H v u Q I r h'=>Na U .cT hn g pins s σ H v u Q I r (by
  obtain⟨F,τ,t,τ',E,rt,e1,q⟩:=h'
  unfold cu at e1
  split at e1
  ·next ts =>
   obtain⟨p,xs,rfl,h1,h2⟩:=rt
   exact⟨p,xs,rfl,bZ E.g.fh h1,by rw [h2.length];exact hl _ _ _ e1,F,τ,ts,τ',E,h2,e1,q⟩
  ·cases e1)
def lS (f:FE)(g:FG):FS:=fun τ=>(f τ).bind fun p=>(g p.1 p.2).bind fun τ'=>some (.nx τ')
theorem qy (he:.fx)(L:SG X tg g)(hs:swapsWithSole [tg] e pos.line X.env=pure false:=by rfl)(B:swappedStores [tg] e X.env=pure none:=by rfl)
  (h1:(assignEach [tg] X.env).map (·.2)=[assign tg X.env]:=by rfl):SS X (.Assign [tg] e pos) (lS f g):=fun Y0 Y9=>PS.weak (Nd .eB (L Y0 Y9) hs B h1) fun D σ H G=>by
 obtain⟨F,τ,r,E,e1,q⟩:=G
 obtain⟨⟨y,τ1⟩,e2,e1⟩:=bind_some e1
 obtain⟨τ2,e3,e1⟩:=bind_some e1
 cases e1
 exact⟨F,τ,y,τ1,E,e2,fun F' H' v Z s' Y=>⟨F',τ1,y,τ2,Z,Y,e3,fun F2 H2 l O s2=>q F2 H2 l O .i8⟩⟩
noncomputable def uS (i j:Nat)(g:FA):FS:=fun τ=>(g τ).bind fun p=>match p.1 with
 |[v,w]=>some (.nx ((p.2.set i (.o v)).set j (.o w)))
 |_=>none
theorem ux {i j:Nat}{kt k2 g}(U:.bp)(J:.eM)(hi:X.N[i]? = some x)(P:X.N[j]? = some y)(k:i≠j)
  (hx:X.env.scope.names.lookup x=some .local) (R:.bN) (ha:SA X [a,b] ga)
  (B:swappedStores .f8 .fq X.env=pure (some [x,y]))
  (hs:swapsWithSole .f8 .fq pos.line X.env=pure false:=by rfl):
  SS X (.Assign .f8 .fq pos) (uS i j ga):=fun Y0 Y9=>PS.weak (Ng U J hi P k hx R .bT B hs) fun D σ H G=>by
 obtain⟨F,τ,r,E,e1,q⟩:=G
 obtain⟨⟨ts,τ1⟩,e2,e1⟩:=bind_some e1
 dsimp only at e1
 split at e1
 ·next v w =>
  cases e1
  refine⟨F,τ,_,τ1,E,e2,fun F' H' vs Z s' Y=>?_⟩
  obtain⟨v1,r1,rfl,q1,v2,r2,rfl,q2,rfl⟩:=Y
  exact⟨v1,v2,rfl,q F' H' _ ((Z.set q1).set q2) s'⟩
 ·cases e1
structure Walks (K:.j)(F:Hp)(ts:List T)(J:It):Prop where
 go:∀(i:Nat) t F1 H1,ts[i]? = some t->aJ F F1->aJ F1 H1->J.go i H1
 yld:∀(i:Nat) t F1 H1 x H2,ts[i]? = some t->aJ F F1->aJ F1 H1->J.yld i H1 x H2->∃F2,aZ F1 H1 F2 H2/\Rep K F2 t x
 stop:∀F1 H1,aJ F F1->aJ F1 H1->J.stop ts.length H1
noncomputable def tI (K:.j)(Y0 Y9:Hp)(g:FA):TI:=fun σ H R=>∃F τ ts τ',aB K Y0 Y9 F H σ τ/\g τ=some .ib/\∀F' H' J,aB K Y0 Y9 F' H' σ τ'->aJ F F'->Walks K F' ts J->R J H'
def SI (X:Cx)(tg iter:Expr)(g:FA):Prop:=∀Y0 Y9,PI X tg iter (tI X.K Y0 Y9 g)
noncomputable def dk (fg:FG)(fb:FS):List T->FS
 |[],τ=>some (.nx τ)
 |t::ts,τ=>(fg t τ).bind fun τ1=>(fb τ1).bind fun r=>match r with
  | .nx τ2=>dk fg fb ts τ2
  | .ct τ2=>dk fg fb ts τ2
  | .bk τ2=>some (.nx τ2)
  | .rt v=>some (.rt v)
def gU (g:FA)(fg:FG)(fb:FS):FS:=fun τ=>(g τ).bind fun p=>dk fg fb p.1 p.2
theorem iJ {tg iter:Expr}{body:.a4}{g:FA}{fg:FG}{fb:FS}(hp:.dq)(U:.bp)(hi:.ei)(L:SG X tg fg)(hb:vM X body fb)
  (hs:∀x,foldedSetIterable iter X.env x=pure x:=by intro _;rfl):SS X .gj (gU g fg fb):=fun Y0 Y9=>PS.weak (Cm hp U (hi Y0 Y9) (L Y0 Y9) .c4 hs) fun D σ H G=>by
 obtain⟨F,τ,r,E,e1,q⟩:=G
 obtain⟨⟨ts,τ1⟩,e2,e1⟩:=bind_some e1
 refine⟨F,τ,ts,τ1,E,e2,fun F' H' J Z s' W=>?_⟩
 refine⟨fun i m σ H=>m=ts.length-i/\i≤ts.length/\∃F1 τ1,aB X.K Y0 Y9 F1 H σ τ1/\aJ F' F1/\dk fg fb (ts.drop i) τ1=some r,⟨_,rfl,zaU _,F',τ1,Z,aJ.refl _,e1⟩,?_⟩
 rintro i m w H1 ⟨rfl,hi,F1,τ2,V,s1,e3⟩
 by_cases B:i<ts.length
 ·have hd:.iJ:=zaY B
  have L:.gY:=zav B
  rw [hd] at e3
  obtain⟨S,e4,e3⟩:=bind_some e3
  obtain⟨Y,e5,e3⟩:=bind_some e3
  refine .a1 ⟨W.go i _ F1 H1 L s1 V.g.fh,fun σ H=>∃F1 τ1,aB X.K Y0 Y9 F1 H σ τ1/\aJ F' F1/\dk fg fb (ts.drop (i+1)) τ1=some r,fun σ' H' n=>⟨_,.d,rfl,B,n⟩,fun x H2 y=>?_⟩
  obtain⟨F2,A,N⟩:=W.yld i _ F1 H1 x H2 L s1 V.g.fh y
  refine⟨F2,τ2,ts[i],S,V.grow A,N,e4,fun F3 H3 j T C=>⟨F3,S,Y,T,e5,?_⟩⟩
  have Q:aJ F' F3:=s1.trans (A.sF.trans C)
  cases Y with
  |nx l=>exact fun I R s p P=>⟨I,l,p,Q.trans P,e3⟩
  |ct l=>exact fun I R s p P=>⟨I,l,p,Q.trans P,e3⟩
  |bk l=>cases e3;exact fun I R s p P=>q I R s p (s'.trans (Q.trans P))
  |rt v=>cases e3;exact q
 ·have he:i=ts.length:=.d
  subst he
  rw [zbh] at e3
  cases e3
  exact .inl ⟨W.stop F1 H1 s1 V.g.fh,q F1 H1 w V (s'.trans s1)⟩
noncomputable def BH (f:FE):FA:=fun τ=>(f τ).bind fun p=>match p.1 with | .lst ts=>some (ts,p.2) | .scr ts=>some (ts,p.2) | _=>none
def GR (f:FE):FA:=fun τ=>(f τ).bind fun p=>match p.1 with | .tup ts=>some (ts,p.2) | _=>none
theorem uH {K:.j}{F:Hp}{p:Addr}{xs:List V}{ts:List T}(h1:gE K F p xs)(h2:aM K F ts xs):Walks K F ts (RM K p):=by
 refine⟨fun i t F1 H1 e s1 s2=>?_,fun i t F1 H1 x H2 e s1 s2 y=>?_,fun F1 H1 s1 s2=>⟨xs,(s1.trans s2).seq h1,by rw [h2.length];exact zam _⟩⟩
 ·obtain⟨v,g1,_⟩:=h2.get e
  exact⟨xs,v,(s1.trans s2).seq h1,g1⟩
 ·obtain⟨rfl,y⟩:=y
  obtain⟨v,g1,g2⟩:=h2.get e
  have:=y xs ((s1.trans s2).seq h1)
  rw [g1] at this;cases this
  exact⟨F1,aZ.refl s2,Rep.mono s1 g2⟩
theorem FU {K:.j}{F:Hp}{p:Addr}{xs:List V}{ts:List T}(h1:mQ K F p xs)(h2:aM K F ts xs):Walks K F ts (RO K p):=by
 refine⟨fun i t F1 H1 e s1 s2=>?_,fun i t F1 H1 x H2 e s1 s2 y=>?_,fun F1 H1 s1 s2=>⟨xs,bZ .a5 h1,by rw [h2.length];exact zam _⟩⟩
 ·obtain⟨v,g1,_⟩:=h2.get e
  exact⟨xs,v,bZ .a5 h1,g1⟩
 ·obtain⟨rfl,y⟩:=y
  obtain⟨v,g1,g2⟩:=h2.get e
  have:=y xs (bZ .a5 h1)
  rw [g1] at this;cases this
  exact⟨F1,aZ.refl s2,Rep.mono s1 g2⟩
theorem PI.weak {t t':TI}(h:PI X tg it t)(i:∀σ H R,t' σ H R->t σ H R):PI X tg it t':=fun pins s σ H R I q=>h pins s σ H R I (i σ H R q)
theorem Eg (h:SE X l f):SI X tg l (BH f):=fun Y0 Y9=>PI.weak (Ky .cT) fun σ H R G=>by
 obtain⟨F,τ,ts,τ',E,e1,q⟩:=G
 obtain⟨⟨x,τ1⟩,e2,e1⟩:=bind_some e1
 dsimp only at e1
 split at e1
 ·cases e1
  refine⟨F,τ,_,τ',E,e2,fun F' H' v Z s' Y=>?_⟩
  obtain⟨p,xs,rfl,h1,h2⟩:=Y
  exact⟨p,rfl,⟨xs,gE.of (Z.g.fh _ _ h1)⟩,q F' H' _ Z s' (uH (gE.of h1) h2)⟩
 ·cases e1
  refine⟨F,τ,_,τ',E,e2,fun F' H' v Z s' Y=>?_⟩
  obtain⟨p,xs,rfl,h1,h2⟩:=Y
  exact⟨p,rfl,⟨xs,Z.g.fh.seq h1⟩,q F' H' _ Z s' (uH h1 h2)⟩
 ·cases e1
theorem NA (h:SE X l f):SI X tg l (GR f):=fun Y0 Y9=>PI.weak (Nc .cT) fun σ H R G=>by
 obtain⟨F,τ,ts,τ',E,e1,q⟩:=G
 obtain⟨⟨x,τ1⟩,e2,e1⟩:=bind_some e1
 dsimp only at e1
 split at e1
 ·cases e1
  refine⟨F,τ,_,τ',E,e2,fun F' H' v Z s' Y=>?_⟩
  obtain⟨p,xs,rfl,h1,h2⟩:=Y
  exact⟨p,rfl,⟨xs,bZ Z.g.fh h1⟩,q F' H' _ Z s' (FU h1 h2)⟩
 ·cases e1
def upTo (lo:Int):Nat->List T
 |0=>[]
 |n+1=>.int lo::upTo (lo+1) n
theorem je:∀(n:Nat) (lo:Int),(upTo lo n).length=n
 |0,_=>rfl
 |n+1,lo=>by simp [upTo,je n]
theorem uG:∀(n:Nat) (lo:Int) (i:Nat),i<n->(upTo lo n)[i]? = some (.ak (lo+i))
 |0,_,_,h=>.d
 |n+1,lo,0,_=>by simp [upTo]
 |n+1,lo,i+1,h=>by
  simp only [upTo,List.getElem?_cons_succ]
  rw [uG n (lo+1) i .d]
  congr 2
  push_cast
  omega
noncomputable def dm (g:FA):FA:=fun τ=>(g τ).bind fun p=>match p.1 with
 |[.int j]=>if -(2^62)≤j/\j<2^62 then some (upTo 0 j.toNat,p.2) else none
 |_=>none
theorem FP {K:.j}{F:Hp}(lo:Int)(n:Nat):Walks K F (upTo lo n) (QL lo n):=by
 have hl:∀{i:Nat} {t:T},(upTo lo n)[i]? = some t->i<n:=fun {i t} e=>by
  have:=(zar.mp e).1
  rwa [je] at this
 refine⟨fun i t F1 H1 e s1 s2=>hl e,fun i t F1 H1 x H2 e s1 s2 y=>?_,fun F1 H1 s1 s2=>by show n≤_;rw [je];exact zam _⟩
 obtain⟨rfl,rfl⟩:=y
 rw [uG n lo i (hl e)] at e
 cases e
 exact⟨F1,aZ.refl s2,rfl⟩
theorem kN (L:Gl X "range")(hm:X.mg "range" = none)(ha:SA X [a] ga)(hs:starEach [a] X.env=[(.p a)]:=by rfl):SI X tg (.Call (.Name "range" p) [a] [] pos) (dm ga):=
 fun Y0 Y9=>PI.weak (Fx L hm .bT hs) fun σ H R G=>by
  obtain⟨F,τ,ts,τ',E,e1,q⟩:=G
  obtain⟨⟨x,τ1⟩,e2,e1⟩:=bind_some e1
  dsimp only at e1
  split at e1
  ·split at e1
   ·next hb =>
    cases e1
    refine⟨F,τ,_,τ',E,e2,fun F' H' vs Z s' Y=>?_⟩
    obtain⟨v,r,rfl,q1,rfl⟩:=Y
    cases q1
    exact⟨_,rfl,hb.1,hb.2,q F' H' _ Z s' (FP 0 _)⟩
   ·cases e1
  ·cases e1
noncomputable def cP (ft:FT)(fb:FS):Nat->FS
 |0,_=>none
 |n+1,τ=>(ft τ).bind fun p=>if p.1=true then (fb p.2).bind fun r=>match r with
  | .nx τ2=>cP ft fb n τ2
  | .ct τ2=>cP ft fb n τ2
  | .bk τ2=>some (.nx τ2)
  | .rt v=>some (.rt v) else some (.nx p.2)
theorem mJ (n:Nat){c:Expr}{body:.a4}{ft:FT}{fb:FS}(hp:.dq)(U:ST X c ft)(hb:vM X body fb):SS X (.While c body [] pos) (cP ft fb n):=fun Y0 Y9=>PS.weak (IA hp (U Y0 Y9) .c4) fun D σ H G=>by
 obtain⟨F,τ,r,E,e1,q⟩:=G
 refine⟨fun m σ H=>∃F1 τ1,aB X.K Y0 Y9 F1 H σ τ1/\aJ F F1/\cP ft fb m τ1=some r,⟨n,F,τ,E,aJ.refl _,e1⟩,?_⟩
 rintro m w H1 ⟨F1,τ1,V,s1,e2⟩
 cases m with
 |zero=>cases e2
 |succ m =>
  obtain⟨⟨x,τ2⟩,e3,e2⟩:=bind_some e2
  refine⟨F1,τ1,x,τ2,V,e3,fun F2 H2 O s2=>?_⟩
  dsimp only at e2
  split at e2
  ·next h =>
   rw [if_pos h]
   obtain⟨Y,e4,e2⟩:=bind_some e2
   refine⟨fun σ H=>∃F1 τ1,aB X.K Y0 Y9 F1 H σ τ1/\aJ F F1/\cP ft fb m τ1=some r,fun σ' H' n=>⟨m,zbf m,n⟩,F2,τ2,Y,O,e4,?_⟩
   cases Y with
   |nx l=>exact fun I R s p P=>⟨I,l,p,(s1.trans s2).trans P,e2⟩
   |ct l=>exact fun I R s p P=>⟨I,l,p,(s1.trans s2).trans P,e2⟩
   |bk l=>cases e2;exact fun I R s p P=>q I R s p ((s1.trans s2).trans P)
   |rt v=>cases e2;exact q
  ·next h =>
   rw [if_neg h]
   cases e2
   exact q F2 H2 w O .a5
noncomputable def eY (i:Nat)(f:FE):FS:=fun τ=>match τ[i]? with
 |some (.aX (.own _))=>(f τ).bind fun p=>match p.2[i]? with
  |some (.n ts)=>if ts.length<sizeLine then some (.nx (p.2.set i (.n (ts++[p.1])))) else none
  |_=>none
 |_=>none
end
noncomputable def cy (m n:Nat)(fb:FS):List T->Option T:=fun ts=>if ts.length=n then (fb (.y (m-n))).bind fun r=>match r with
 | .rt t=>some t
 | .nx _=>some .non
 |_=>none else none
theorem jD {K:.j}{F H:Hp}{N:.U}{vs:List V}{ts:List T}(s:aJ F H)(r:.f4):aB K F H F H (start N vs) (.y (N.length-ts.length)):=by
 have hl:=r.length
 have key:∀(i:Nat) (sl:Sl),(ts.map (fun t=>some (Sl.sh t))++List.replicate (N.length-ts.length) none)[i]? = some (.aX sl)->∃t,ts[i]? = some t/\sl=.sh t:=fun i sl e=>by
  by_cases h:i<ts.length
  ·rw [List.getElem?_append_left .au,List.getElem?_map,List.getElem?_eq_getElem h] at e
   simp at e
   exact⟨ts[i],zav h,e.symm⟩
  ·rw [List.getElem?_append_right .i,List.getElem?_replicate] at e
   split at e<;>cases e
 refine⟨aZ.refl s,by simp [L2.start,hl],fun i sl e=>?_,fun i j us ws p _ e1 _ _=>?_⟩
 ·obtain⟨t,e1,rfl⟩:=key i sl e
  obtain⟨v,g1,g2⟩:=r.get e1
  refine⟨v,?_,g2⟩
  have hi:i<vs.length:=(zar.mp g1).1
  unfold L2.start
  rw [List.getElem?_append_left .dA,List.getElem?_map,g1]
  rfl
 ·obtain⟨t,_,e⟩:=key i _ e1
  cases e
section
variable {P:.ai}{w:World}{K:.j}{mg:.G}{base:Heap}
theorem bT {x qual:Str}{st:Stmt}{f:Addr}{fd:.e7}{N ps:.U}{k:Nat}{fb:FS}(F:.dD)(S:.hK)(hb:.i2)(hm:mg x=some (.d f))
  (h:∀(cdv:Value) (A:Around) (outer:.e6) (s:Shared) (H:Hp) (E:XK),eG k .aK->vM (sP uQ P w K mg base N qual (ax st) f cdv A outer s H E).nox (eT st) fb):
  Def P w K mg base (k+1) x ps.length (cy N.length ps.length fb):=by
 refine⟨f,fd,ps,F.ok S .ir .cJ,hb,F.kp,hm,rfl⟩
 obtain⟨hl,F1,ts,t,R,r,e,q⟩:=z
 unfold cy at e
 split at e
 ·next hn =>
  obtain⟨Y,e1,e⟩:=bind_some e
  refine⟨_,h cdv A outer s H E hr F1 H,F1,_,Y,?_,e1,?_⟩
  ·have:=jD (N:=N) R r
   rw [hn] at this
   exact this
  ·cases Y with
   |rt u=>cases e;exact fun F' H' v g Y=>q F' H' v g Y
   |nx τ=>cases e;exact fun F' H' σ' Z s'=>q F' H' .non Z.g rfl
   |bk τ=>cases e
   |ct τ=>cases e
 ·cases e
end
def B:Nat:=2^4000
theorem Gd {n:Nat}(h:n<B):n.log2<4000:=by
 rcases Nat.eq_zero_or_pos n with h0 | hp
 ·rw [h0];decide
 ·exact (Nat.log2_lt (zaW hp)).mpr h
theorem Gu {i:Int}(h:i.natAbs<B):Builtin.Int.intBits i≤4000:=by
 unfold Builtin.Int.intBits
 split
 ·omega
 ·have:=Gd h
  omega
theorem Px {i j:Int}(hi:i.natAbs<B)(P:j.natAbs<B):IntMulOk i j:=by
 have h1:=Gu hi
 have h2:=Gu P
 unfold IntMulOk
 have M:Builtin.Int.intTooBig (Builtin.Int.intBits i+Builtin.Int.intBits j)=false:=by
  unfold Builtin.Int.intTooBig
  have hb:((bitsLine:Nat):Int)=134217728:=.e
  rw [decide_eq_false]
  show ¬ ((Builtin.Int.intBits i:Int)+(Builtin.Int.intBits j:Int)>((bitsLine:Nat):Int))
  rw [hb]
  omega
 rw [M]
 simp
section
variable {X:Cx}
noncomputable def gI (C:Int->Int->Prop)[∀i j,Decidable (C i j)](g:Int->Int->T):T->T->Option T:=fun a b=>match a,b with
 | .int i,.int j=>if C i j then some .h4 else none
 |_,_=>none
theorem Mp {C:Int->Int->Prop}[∀i j,Decidable (C i j)]{i j:Int}:gI C g .eQ (.ak j)=if C i j then some .h4 else none:=rfl
theorem AF {C:Int->Int->Prop}[∀i j,Decidable (C i j)]{g:Int->Int->T}(h:pS X f (rI C gv))(L:∀K F i j,Rep K F .h4 (gv i j)):lh X f (gI C g):=by
 intro pins s σ H x y v u Q I N S ⟨F,a,b,t,R,m,B,e,q⟩
 unfold gI at e
 split at e
 ·cases m
  cases B
  split at e
  ·next U =>
   cases e
   exact h pins s σ H _ _ v u Q I N S ⟨_,_,rfl,rfl,U,q F H _ .ao (L _ _ _ _)⟩
  ·cases e
 ·cases e
theorem qh {g:Int->Int->T}(h:pS X f (KN gv))(L:∀K F i j,Rep K F .h4 (gv i j)):lh X f (gI .fW g):=
 AF (fun pins s σ H x y v u Q I N S ⟨i,j,e1,e2,_,q⟩=>h pins s σ H x y v u Q I N S ⟨i,j,e1,e2,q⟩) L
def R3 (g g':.cX):T->T->Option T:=fun a b=>match g a b with
 |some t=>some t
 |none=>g' a b
theorem lh.or (h:lh X f g)(h':lh X f g'):lh X f (R3 g g'):=by
 intro pins s σ H x y v u Q I N S ⟨F,a,b,t,R,m,B,e,q⟩
 unfold R3 at e
 split at e
 ·next t' j=>cases e;exact h pins s σ H x y v u Q I N S ⟨F,a,b,_,R,m,B,j,q⟩
 ·exact h' pins s σ H x y v u Q I N S ⟨F,a,b,t,R,m,B,e,q⟩
def CT (i j:Int):Prop:=i.natAbs<B/\j.natAbs<B
instance (i j:Int):Decidable (CT i j):=inferInstanceAs (Decidable (_/\_))
def vL (i j:Int):Prop:=j≠0/\j.natAbs<B
instance (i j:Int):Decidable (vL i j):=inferInstanceAs (Decidable (_/\_))
def QJ (i j:Int):Prop:=j≠0
instance (i j:Int):Decidable (QJ i j):=inferInstanceAs (Decidable (_≠_))
instance (i j:Int):Decidable (Jn i j):=inferInstanceAs (Decidable (_/\_/\_))
abbrev EX:=gI .fW fun i j=>.int (i-j)
abbrev gL:=gI CT fun i j=>.int (i*j)
abbrev iA:=gI vL fun i j=>.int (i.fdiv j)
abbrev dB:=gI QJ fun i j=>.int (i.fmod j)
abbrev EW:=gI Jn fun i j=>.int (i^j.toNat)
abbrev G6:=gI .fW fun i j=>.bl (decide (i<j))
abbrev uU:=gI .fW fun i j=>.bl (decide (i≤j))
abbrev BK:=gI .fW fun i j=>.bl (decide (j<i))
abbrev O1:=gI .fW fun i j=>.bl (decide (j≤i))
theorem Ci:lh X (binaryOp .Sub) EX:=qh MR fun _ _ _ _=>rfl
theorem pe:lh X (binaryOp .Mult) gL:=AF (C:=CT) (gv:=fun i j=>.int (i*j)) (Rt fun _ _ _ _ _ _ _ U q=>mul_int q (Px U.1 U.2)) fun _ _ _ _=>rfl
theorem kj:lh X (binaryOp .FloorDiv) iA:=AF (C:=vL) (gv:=fun i j=>.int (i.fdiv j)) (Rt fun _ _ _ _ _ _ _ U q=>floordiv_int U.1 q (.inl (PyProof.noPylong_of_log2 (zaZ (Gd U.2) (by decide:4000<9000))))) fun _ _ _ _=>rfl
theorem fK:lh X (binaryOp .Mod) dB:=AF (C:=QJ) (gv:=fun i j=>.int (i.fmod j)) Kl fun _ _ _ _=>rfl
theorem Ia:lh X (binaryOp .Pow) EW:=AF (C:=Jn) MP fun _ _ _ _=>rfl
theorem HY:lh X (.ag .Lt) G6:=qh PQ fun _ _ _ _=>rfl
theorem qQ:lh X (compareOp .LtE) uU:=qh PN fun _ _ _ _=>rfl
theorem ud:lh X (.ag .Gt) BK:=qh PM fun _ _ _ _=>rfl
theorem LK:lh X (compareOp .GtE) O1:=qh PL fun _ _ _ _=>rfl
noncomputable def oR:T->T->Option T
 | .str x,.str y=>if x.length+y.length≤sizeLine then some (.str (x++y)) else none
 | .lst xs,.lst ys=>if xs.length+ys.length≤sizeLine then some (.lst (xs++ys)) else none
 | .tup (x::xs),.tup (y::ys)=>if (x::xs).length+(y::ys).length≤sizeLine then some (.tup (x::xs++y::ys)) else none
 |_,_=>none
theorem Kn:lh X .hA oR:=by
 intro pins s σ H x y v u Q I N S ⟨F,a,b,t,R,m,B,e,q⟩
 unfold oR at e
 split at e
 ·split at e
  ·next hl =>
   cases e;cases m;cases B
   exact Cg pins s σ H _ _ v u Q I N S ⟨_,_,rfl,rfl,hl,.er⟩
  ·cases e
 ·split at e
  ·next hl =>
   cases e
   obtain⟨p1,J,rfl,h1,h2⟩:=m
   obtain⟨p2,C,rfl,M,D⟩:=B
   refine MN pins s σ H _ _ v u Q I N S ⟨p1,p2,J,C,rfl,rfl,R _ _ h1,R _ _ M,by rw [h2.length,D.length];exact hl,fun p hp=>?_⟩
   have A:=aZ.new (.lst (J++C)) R hp
   exact q _ _ _ A ⟨p,_,rfl,aF,aM.mono A.sF (h2.append D)⟩
  ·cases e
 ·split at e
  ·next hl =>
   cases e
   obtain⟨p1,J,rfl,h1,h2⟩:=m
   obtain⟨p2,C,rfl,M,D⟩:=B
   refine Kk pins s σ H _ _ v u Q I N S ⟨p1,p2,J,C,rfl,rfl,bZ R h1,bZ R M,fun z=>?_,by rw [h2.length,D.length];exact hl,fun z=>?_,fun _ p hp=>?_⟩
   ·subst z;have:=h2.length;simp at this
   ·subst z;have:=D.length;simp at this
   ·have A:=aZ.new (.tup (J++C)) R hp
    exact q _ _ _ A ⟨p,_,rfl,mQ.of aF,aM.mono A.sF (h2.append D)⟩
  ·cases e
 ·cases e
def aU:T->T->Option T:=R3 (gI .fW fun i j=>.int (i+j)) oR
theorem bh:lh X .hA aU:=lh.or (qh MM fun _ _ _ _=>rfl) Kn
theorem fV {i j:Int}:aU .eQ (.ak j)=some (.ak (i+j)):=rfl
theorem oS {xs ys:List T}(h:xs.length+ys.length≤sizeLine):aU .cG (.lst ys)=some (.lst (xs++ys)):=by
 show oR .cG (.lst ys)=_
 simp only [oR,.jo]
theorem GZ {x y:T}{xs ys:List T}(h:(x::xs).length+(y::ys).length≤sizeLine):aU (.tup (x::xs)) (.tup (y::ys))=some (.tup (x::xs++y::ys)):=by
 show oR (.tup (x::xs)) (.tup (y::ys))=_
 simp only [oR,.jo]
theorem GY {x y:Str}(h:x.length+y.length≤sizeLine):aU .fM (.str y)=some (.str (x++y)):=by
 show oR .fM (.str y)=_
 simp only [oR,.jo]
def p8:T->Option T
 | .int i=>some (.ak (-i))
 |_=>none
theorem CH:Tu X (unaryOp .USub) p8:=by
 intro pins s σ H x v Q I N ⟨F,a,t,R,m,e,q⟩
 unfold p8 at e
 split at e
 ·cases e;cases m
  exact NV pins s σ H _ v Q I N ⟨_,rfl,.er⟩
 ·cases e
mutual
def rY:T->Option PyData
 | .non=>some .none
 | .bl b=>some (.bool b)
 | .int i=>some .eQ
 | .str x=>some .fM
 | .tup ts=>(pL ts).map .tuple
 | .lst ts=>(pL ts).map .list
 | .scr ts=>(pL ts).map .list
 | .ty _=>none
 | .dct _ _=>none
 | .obj _ _ _=>none
 | .ptr _=>none
 | .exc _ _ _=>none
def pL:List T->Option (List PyData)
 |[]=>some []
 |t::ts=>(rY t).bind fun d=>(pL ts).bind fun ds=>some (d::ds)
end
mutual
theorem dC (I:.q)(R:aJ F H):∀{t:T} {d:PyData} {v:V} {u:Value},rY t=some d->Rep X.K F t v->RelV v u->∃as,Reads s.heap u d as
 | .non,d,v,u,e,r,S=>by cases r;cases e;cases S;exact⟨_,.none⟩
 | .bl b,d,v,u,e,r,S=>by cases r;cases e;cases S;exact⟨_,.bool _⟩
 | .int i,d,v,u,e,r,S=>by cases r;cases e;obtain⟨t,rfl⟩:=S;exact⟨_,.int _ _⟩
 | .str x,d,v,u,e,r,S=>by cases r;cases e;obtain⟨t,rfl⟩:=S;exact⟨_,.str _ _⟩
 | .ty _,d,v,u,e,r,S=>by cases e
 | .dct _ _,d,v,u,e,r,S=>by cases e
 | .obj _ _ _,d,v,u,e,r,S=>by cases e
 | .ptr _,d,v,u,e,r,S=>by cases e
 | .exc _ _ _,d,v,u,e,r,S=>by cases e
 | .tup ts,d,v,u,e,r,S=>by
  obtain⟨p,xs,rfl,h1,h2⟩:=r
  cases S
  simp only [rY] at e
  cases e1:pL ts with
  |none=>rw [e1] at e;cases e
  |some ds =>
   rw [e1] at e;cases e
   obtain⟨G,f,⟨o,g1,g2,n,g3⟩,_⟩:=I.tuple (bZ R h1)
   obtain⟨as,q⟩:=jb I R e1 h2 f
   exact⟨_,.tuple g1 g2 g3 q⟩
 | .lst ts,d,v,u,e,r,S=>by
  obtain⟨p,xs,rfl,h1,h2⟩:=r
  cases S
  simp only [rY] at e
  cases e1:pL ts with
  |none=>rw [e1] at e;cases e
  |some ds =>
   rw [e1] at e;cases e
   obtain⟨G,f,⟨o,n,g1,g2,_,g3⟩,_⟩:=I.list .fJ
   obtain⟨as,q⟩:=jb I R e1 h2 f
   exact⟨_,.list g1 g2 g3 q⟩
 | .scr ts,d,v,u,e,r,S=>by
  obtain⟨p,xs,rfl,h1,h2⟩:=r
  cases S
  simp only [rY] at e
  cases e1:pL ts with
  |none=>rw [e1] at e;cases e
  |some ds =>
   rw [e1] at e;cases e
   obtain⟨G,f,⟨o,n,g1,g2,_,g3⟩,_⟩:=I.list (R.seq h1)
   obtain⟨as,q⟩:=jb I R e1 h2 f
   exact⟨_,.list g1 g2 g3 q⟩
theorem jb (I:.q)(R:aJ F H):∀{ts:List T} {ds:List PyData} {vs:List V} {us:.S},pL ts=some ds->aM X.K F ts vs->Vals vs us->∃as,ReadsAll s.heap us ds as
 |[],ds,vs,us,e,r,S=>by cases r;cases S;cases e;exact⟨_,.nil⟩
 |t::ts,ds,vs,us,e,r,S=>by
  obtain⟨v,y,rfl,h1,h2⟩:=r
  cases S with
  |cons r1 r2 =>
   simp only [pL] at e
   obtain⟨d,e1,e⟩:=bind_some e
   obtain⟨a,e2,e⟩:=bind_some e
   cases e
   obtain⟨as,q1⟩:=dC I R e1 h1 r1
   obtain⟨bs,q2⟩:=jb I R e2 h2 r2
   exact⟨_,.cons q1 q2⟩
end
noncomputable def zN (neg:Bool)(a b:T):Option T:=(rY a).bind fun p=>(rY b).bind fun q=>if SeqAt.shaped p=true/\SeqAt.shaped q=true then some (.bl (if neg then !PyData.eqv p q else PyData.eqv p q)) else none
abbrev eO:=zN false
abbrev jM:=zN true
theorem dy (hu:.bi):lh X (.ag .Eq) eO:=by
 intro pins s σ H x y v u Q I N S ⟨F,a,b,t,R,m,B,e,q⟩
 obtain⟨E,e1,e⟩:=bind_some e
 obtain⟨J,e2,e⟩:=bind_some e
 split at e
 ·next hs =>
  cases e
  obtain⟨as,q1⟩:=dC I R e1 m N
  obtain⟨bs,q2⟩:=dC I R e2 B S
  exact SeqAt.compareEq_shaped q1 q2 hs.1 hs.2 hu .bj
 ·cases e
theorem gM (hu:.bi):lh X (compareOp .NotEq) jM:=by
 intro pins s σ H x y v u Q I N S ⟨F,a,b,t,R,m,B,e,q⟩
 obtain⟨E,e1,e⟩:=bind_some e
 obtain⟨J,e2,e⟩:=bind_some e
 split at e
 ·next hs =>
  cases e
  obtain⟨as,q1⟩:=dC I R e1 m N
  obtain⟨bs,q2⟩:=dC I R e2 B S
  exact SeqAt.compareNe_shaped q1 q2 hs.1 hs.2 hu .bj
 ·cases e
def DB:T->Bool
 | .non=>true
 |_=>false
noncomputable def Oi:T->T->Option T
 |a,.non=>some (.bl (DB a))
 | .bl c,.bl d=>some (.bl (c == d))
 |_,_=>none
theorem wt {K:.j}{F:Hp}{t:T}{v:V}(r:.ih):decide (v=.non)=DB t:=by
 cases t with
 |non=>cases r;rfl
 |bl _=>cases r;rfl
 |int _=>cases r;rfl
 |str _=>cases r;rfl
 |ty _=>cases r;rfl
 |tup _=>obtain⟨p,xs,rfl,_⟩:=r;rfl
 |lst _=>obtain⟨p,xs,rfl,_⟩:=r;rfl
 |scr _=>obtain⟨p,xs,rfl,_⟩:=r;rfl
 |dct _ _=>obtain⟨p,_,_,rfl,_⟩:=r;rfl
 |obj _ _ _=>obtain⟨p,_,_,rfl,_⟩:=r;rfl
 |ptr _=>rw [show v=_ from r];rfl
 |exc _ _ _=>obtain⟨p,_,rfl,_⟩:=r;rfl
theorem PV:lh X (.ag .Is) Oi:=by
 intro pins s σ H x y v u Q I N S ⟨F,a,b,t,R,m,B,e,q⟩
 unfold Oi at e
 split at e
 ·cases e;cases B
  exact MO pins s σ H _ _ v u Q I N S ⟨rfl,by rw [wt m];exact q F H _ .ao rfl⟩
 ·cases e;cases m;cases B;cases N;cases S
  exact is_bool .bj
 ·cases e
noncomputable def bI:T->T->Option T
 | .lst ts,.int i=>zj ts i
 | .scr ts,.int i=>zj ts i
 | .tup ts,.int i=>zj ts i
 | .str x,.int i=>if x.length≤sizeLine then (zj x.cps.toList i).map fun c=>.str ⟨#[c]⟩ else none
 |_,_=>none
theorem w8 {K:.j}{F:Hp}{ts:List T}{vs:List V}{i:Int}{t:T}(r:.f4)(e:zj ts i=some t):∃v,zj vs i=some v/\Rep K F t v:=by
 unfold zj at e ⊢
 rw [r.length]
 obtain⟨j,e1,e2⟩:=bind_some e
 obtain⟨v,g1,g2⟩:=r.get e2
 exact⟨v,by rw [e1];exact g1,g2⟩
theorem bw:N0 X (Nn X.K bI):=by
 intro value slice pins s σ H x y v u Q I N S ⟨F,a,b,t,R,m,B,e,q⟩ hs
 unfold bI at e
 split at e
 ·obtain⟨p,xs,rfl,h1,h2⟩:=m
  cases B
  obtain⟨w,g1,g2⟩:=w8 h2 e
  exact DD value slice pins s σ H _ _ v u Q I N S ⟨p,xs,_,w,rfl,rfl,gE.of (R _ _ h1),g1,q F H _ .ao g2⟩ hs
 ·obtain⟨p,xs,rfl,h1,h2⟩:=m
  cases B
  obtain⟨w,g1,g2⟩:=w8 h2 e
  exact DD value slice pins s σ H _ _ v u Q I N S ⟨p,xs,_,w,rfl,rfl,R.seq h1,g1,q F H _ .ao g2⟩ hs
 ·obtain⟨p,xs,rfl,h1,h2⟩:=m
  cases B
  obtain⟨w,g1,g2⟩:=w8 h2 e
  exact Mz value slice pins s σ H _ _ v u Q I N S ⟨p,xs,_,w,rfl,rfl,bZ R h1,g1,q F H _ .ao g2⟩ hs
 ·split at e
  ·next hl =>
   cases m;cases B
   cases e1:zj (Str.cps _).toList _ with
   |none=>rw [e1] at e;cases e
   |some c =>
    rw [e1] at e;cases e
    exact Mx value slice pins s σ H _ _ v u Q I N S ⟨_,_,c,rfl,rfl,hl,e1,.er⟩ hs
  ·cases e
 ·cases e
theorem iw (h:fR X f r)(i:∀vs H Q,Rw X.K g vs H Q->r vs H Q):gf X f g:=fun pins s σ H xs us Q I N q=>h pins s σ H xs us Q I N (i _ _ _ q)
noncomputable def bJ:List T->Option T
 |[.lst ts]=>some (.int ts.length)
 |[.scr ts]=>some (.int ts.length)
 |[.tup ts]=>some (.int ts.length)
 |[.str x]=>if x.length≤sizeLine then some (.int x.length) else none
 |_=>none
theorem cg:gf X .gz bJ:=iw (fR.or xa xb) fun vs H Q G=>by
 obtain⟨F,ts,t,R,r,e,q⟩:=G
 unfold bJ at e
 split at e
 ·obtain⟨v,y,rfl,⟨p,xs,rfl,h1,h2⟩,rfl⟩:=r
  cases e
  exact .inl ⟨p,xs,rfl,.inl .fJ,by rw [h2.length];exact q F H _ .ao rfl⟩
 ·obtain⟨v,y,rfl,⟨p,xs,rfl,h1,h2⟩,rfl⟩:=r
  cases e
  exact .inl ⟨p,xs,rfl,.inl (R.seq h1),by rw [h2.length];exact q F H _ .ao rfl⟩
 ·obtain⟨v,y,rfl,⟨p,xs,rfl,h1,h2⟩,rfl⟩:=r
  cases e
  exact .inl ⟨p,xs,rfl,.inr (bZ R h1),by rw [h2.length];exact q F H _ .ao rfl⟩
 ·split at e
  ·next hl =>
   obtain⟨v,y,rfl,h1,rfl⟩:=r
   cases h1;cases e
   exact .a1 ⟨_,rfl,hl,.er⟩
  ·cases e
 ·cases e
def sQ:List T->Option T
 |[.int i]=>some (.ak (if i<0 then -i else i))
 |_=>none
theorem sL:gf X (.builtin "abs") sQ:=iw Gv fun vs H Q G=>by
 obtain⟨F,ts,t,R,r,e,q⟩:=G
 unfold sQ at e
 split at e
 ·obtain⟨v,y,rfl,h1,rfl⟩:=r
  cases h1;cases e
  exact⟨_,rfl,q F H _ .ao rfl⟩
 ·cases e
def RY:List T->Option T
 |[.int i,.int j]=>some (.ak (if j>i then j else i))
 |_=>none
def Jv:List T->Option T
 |[.int i,.int j]=>some (.ak (if j<i then j else i))
 |_=>none
theorem L8 (U:.bp):gf X (.builtin "min") Jv:=iw (EI U) fun vs H Q G=>by
 obtain⟨F,ts,t,R,r,e,q⟩:=G
 unfold Jv at e
 split at e
 ·obtain⟨v,y,rfl,h1,v2,r2,rfl,h2,rfl⟩:=r
  cases h1;cases h2;cases e
  exact⟨_,_,rfl,q F H _ .ao rfl⟩
 ·cases e
noncomputable def Ju:List T->Option T
 |[.int i]=>some .eQ
 |[.bl c]=>some (.ak (if c then 1 else 0))
 |_=>none
theorem L7:gf X (.type "int") Ju:=iw EF fun vs H Q G=>by
 obtain⟨F,ts,t,R,r,e,q⟩:=G
 unfold Ju at e
 split at e
 ·obtain⟨v,y,rfl,h1,rfl⟩:=r
  cases h1;cases e
  exact .inl ⟨_,rfl,.er⟩
 ·obtain⟨v,y,rfl,h1,rfl⟩:=r
  cases h1;cases e
  exact .a1 ⟨_,rfl,.er⟩
 ·cases e
noncomputable def lq:List T->Option T
 |[.int i]=>if i.natAbs.log2<1920 then some (.str (toString i)) else none
 |_=>none
theorem sM:gf X (.type "str") lq:=iw xg fun vs H Q G=>by
 obtain⟨F,ts,t,R,r,e,q⟩:=G
 unfold lq at e
 split at e
 ·split at e
  ·next hl =>
   obtain⟨v,y,rfl,h1,rfl⟩:=r
   cases h1;cases e
   exact⟨_,rfl,hl,q F H _ .ao rfl⟩
  ·cases e
 ·cases e
noncomputable def dList:List T->Option T
 |[.lst ts]=>some .dH
 |[.scr ts]=>some .dH
 |[.tup ts]=>some .dH
 |_=>none
theorem Js:gf X (.type "list") dList:=iw xf fun vs H Q G=>by
 obtain⟨F,ts,t,R,r,e,q⟩:=G
 unfold dList at e
 split at e
 ·obtain⟨v,y,rfl,⟨p,xs,rfl,h1,h2⟩,rfl⟩:=r
  cases e
  refine⟨p,xs,rfl,.inl .fJ,fun l hl=>?_⟩
  have A:=aZ.new .cG R hl
  exact .fu
 ·obtain⟨v,y,rfl,⟨p,xs,rfl,h1,h2⟩,rfl⟩:=r
  cases e
  refine⟨p,xs,rfl,.inl (R.seq h1),fun l hl=>?_⟩
  have A:=aZ.new .cG R hl
  exact .fu
 ·obtain⟨v,y,rfl,⟨p,xs,rfl,h1,h2⟩,rfl⟩:=r
  cases e
  refine⟨p,xs,rfl,.inr (bZ R h1),fun l hl=>?_⟩
  have A:=aZ.new .cG R hl
  exact .fu
 ·cases e
noncomputable def Om:T->Option String
 | .non=>some "NoneType"
 | .bl _=>some "bool"
 | .int _=>some "int"
 | .str _=>some "str"
 | .tup _=>some "tuple"
 | .lst _=>some "list"
 | .scr _=>some "list"
 | .dct _ _=>some "dict"
 | .obj _ _ _=>none
 | .ptr _=>none
 | .exc _ _ _=>none
 | .ty _=>none
def kinds:List String:=["int","bool","str","list","tuple","dict"]
noncomputable def Rj (a c:String):Option Bool:=if c∈kinds then some (a == c||(a == "bool"&&c == "int")) else none
noncomputable def Mw (a:String):List T->Option Bool
 |[]=>some false
 | .ty c::r=>(Rj a c).bind fun b=>if b=true then some true else Mw a r
 |_::_=>none
theorem Ht {K:.j}{t:T}{a c:String}{b:Bool}(ha:Om t=some a)(h:Rj a c=some b):PySem.W.kitOne K (.type a) (.type c)=some b:=by
 have ha:a∈["NoneType","bool","int","str","tuple","list","dict"]:=by
  cases t<;>simp only [Om] at ha<;>cases ha<;>simp
 unfold Rj at h
 split at h
 ·next U =>
  cases h
  simp only [kinds,List.mem_cons,List.not_mem_nil,or_false] at U ha
  rcases ha with rfl | rfl | rfl | rfl | rfl | rfl | rfl<;>rcases U with rfl | rfl | rfl | rfl | rfl | rfl<;>rfl
 ·cases h
theorem DF {K:.j}{F:Hp}{t:T}{a:String}(ha:Om t=some a):∀{cs:List T} {vs:List V} {us:.S} {b:Bool},Mw a cs=some b->aM K F cs vs->Vals vs us->PySem.W.kitAny K (.type a) us=some b
 |[],vs,us,b,h,r,S=>by cases r;cases S;cases h;rfl
 | .ty c::cs,vs,us,b,h,r,S=>by
  obtain⟨v,y,rfl,h1,h2⟩:=r
  cases h1
  cases S with
  |cons r1 r2 =>
   cases r1
   obtain⟨i,e1,h⟩:=bind_some h
   unfold PySem.W.kitAny
   rw [Ht ha e1]
   cases i with
   |true=>rw [if_pos rfl] at h;exact h
   |false=>rw [if_neg .e] at h;exact DF ha h h2 r2
 | .non::cs,vs,us,b,h,r,S=>by cases h
 | .bl _::cs,vs,us,b,h,r,S=>by cases h
 | .int _::cs,vs,us,b,h,r,S=>by cases h
 | .str _::cs,vs,us,b,h,r,S=>by cases h
 | .tup _::cs,vs,us,b,h,r,S=>by cases h
 | .lst _::cs,vs,us,b,h,r,S=>by cases h
 | .scr _::cs,vs,us,b,h,r,S=>by cases h
 | .dct _ _::cs,vs,us,b,h,r,S=>by cases h
 | .obj _ _ _::cs,vs,us,b,h,r,S=>by cases h
 | .ptr _::cs,vs,us,b,h,r,S=>by cases h
 | .exc _ _ _::cs,vs,us,b,h,r,S=>by cases h
theorem Am (I:.q)(R:aJ F H)(r:Rep X.K F t v)(S:RelV v u)(ha:Om t=some a):
  ∃c:Heap->Prop,PySem.W.KitX X.K u (.type a) c/\c s.heap/\u≠.builtin "__main__.__loader__#opaque" := by
 cases t with
 |non=>cases r;cases S;cases ha;exact⟨_,PySem.W.kitx_none,True.intro,fun z=>nomatch z⟩
 |bl _=>cases r;cases S;cases ha;exact⟨_,PySem.W.kitx_bool,True.intro,fun z=>nomatch z⟩
 |int _=>cases r;obtain⟨t,rfl⟩:=S;cases ha;exact⟨_,PySem.W.kitx_int,True.intro,fun z=>nomatch z⟩
 |str _=>cases r;obtain⟨t,rfl⟩:=S;cases ha;exact⟨_,PySem.W.kitx_str,True.intro,fun z=>nomatch z⟩
 |ty _=>cases ha
 |tup _ =>
  obtain⟨p,xs,rfl,h1,h2⟩:=r
  cases S;cases ha
  obtain⟨G,f,⟨o,g1,g2,n,g3⟩,_⟩:=I.tuple (bZ R h1)
  exact⟨_,PySem.W.kitx_tuple,⟨o,g1,g2⟩,fun z=>nomatch z⟩
 |lst _ =>
  obtain⟨p,xs,rfl,h1,h2⟩:=r
  cases S;cases ha
  obtain⟨G,f,⟨o,n,g1,g2,_,g3⟩,_⟩:=I.list .fJ
  exact⟨_,zbq,⟨o,g1,g2⟩,fun z=>nomatch z⟩
 |scr _ =>
  obtain⟨p,xs,rfl,h1,h2⟩:=r
  cases S;cases ha
  obtain⟨G,f,⟨o,n,g1,g2,_,g3⟩,_⟩:=I.list (R.seq h1)
  exact⟨_,zbq,⟨o,g1,g2⟩,fun z=>nomatch z⟩
 |dct ns ts =>
  obtain⟨p,ob,us,rfl,h1,_⟩:=r
  cases S;cases ha
  obtain⟨_,_,vs,_,o,es,ep,h1,h2,_⟩:=(show di X.prog X.w H s.heap p (.dK (bx ns us)) from (I.hok p _ (R _ _ h1)).2)
  exact⟨_,zbJ,⟨o,h1,h2.1⟩,fun z=>nomatch z⟩
 |obj _ _ _=>cases ha
 |ptr _=>cases ha
 |exc _ _ _=>cases ha
noncomputable def bM:List T->Option T
 |[t,.ty c]=>(Om t).bind fun a=>(Rj a c).bind fun b=>some .f0
 |[t,.tup cs]=>(Om t).bind fun a=>(Mw a cs).bind fun b=>some .f0
 |_=>none
theorem lO:gf X .d6 bM:=by
 intro pins s σ H xs us Q I N ⟨F,ts,t,R,r,e,q⟩
 unfold bM at e
 split at e
 ·obtain⟨a,e1,e⟩:=bind_some e
  obtain⟨b,e2,e⟩:=bind_some e
  cases e
  obtain⟨v,y,rfl,h1,v2,r2,rfl,h2,rfl⟩:=r
  cases h2
  obtain⟨L,S,rfl,m,B⟩:=Vals.two N
  cases B
  obtain⟨c,Z,P,hn⟩:=Am I R h1 m e1
  exact zaJ Z I.kIn P (Ht e1 e2) hn fun tk=>⟨.bl b,H,I.tok tk,rfl,q F H _ .ao rfl⟩
 ·obtain⟨a,e1,e⟩:=bind_some e
  obtain⟨b,e2,e⟩:=bind_some e
  cases e
  obtain⟨v,y,rfl,h1,v2,r2,rfl,⟨p,xs,rfl,M,D⟩,rfl⟩:=r
  obtain⟨L,S,rfl,m,B⟩:=Vals.two N
  cases B
  obtain⟨c,Z,P,hn⟩:=Am I R h1 m e1
  obtain⟨G,f,⟨o,g1,g2,n,g3⟩,_⟩:=I.tuple (bZ R M)
  obtain⟨oc,od,d,osl⟩:=o
  dsimp only at g2 g3
  subst g2 g3
  exact PySem.W.kia_tup Z I.kIn P g1 (DF e1 e2 D f) hn fun tk=>⟨.bl b,H,I.tok tk,rfl,q F H _ .ao rfl⟩
 ·cases e
end
section
variable {X:Cx}{pos:Pos}
def S3:TE:=fun _ H Q=>∀p o,H p=none->Q (.d p) (.Y p (.frz o (.dK [])))
theorem MX (hb:∀pins σ H s,Inv X pins σ H s->sysModules<s.heap.objs.size):PE X (.Dict [] [] pos) S3:=fun pins s σ H Q I h =>
 wpAny_Dict_empty ⟨.ref s.heap.objs.size,_,I.laid (a:=s.heap.objs.size) (o:=.frz { cls:=.type "dict", data:=.dict #[] } (.dK [])) (t':=s.toks) (fun _ _ z=>Heap.get?_push_of_some _ z) .bJ
  ⟨.ac,zaU _,beq_eq_false_iff_ne.mpr (zaW (hb _ _ _ _ I)),[],.nil,Heap.DictOf.new s.heap⟩,rfl,h _ _ I.fresh⟩
theorem L1 (I:.q):sysModules<s.heap.objs.size:=by
 obtain⟨mb,h1,_⟩:=I.mod.blt
 have h2:=(h1.keeps I.bk).lt
 have M:(sysModules:Nat)<builtinsNs\/¬ (sysModules:Nat)<builtinsNs:=Nat.lt_or_ge _ _ |>.imp id (fun h=>Nat.not_lt.mpr h)
 have D:=(I.mod.glob.keeps I.bk).lt
 first
  |exact zaG .e h2
  |exact zaG .e D
def Mf:FE:=fun τ=>some (.dic,τ)
theorem Nt:SE X (.Dict [] [] pos) Mf:=fun Y0 Y9=>PE.weak (MX fun _ _ _ _ I=>L1 I) fun σ H Q G=>by
 obtain⟨F,τ,t,τ',E,e1,q⟩:=G
 cases e1
 intro p o hp
 have A:=aZ.new (.frz o (.dK [])) E.g.fh hp
 exact q _ _ _ (E.grow A) A.sF ⟨p,o,[],rfl,aF,rfl,rfl⟩
abbrev FO:=az->Option (Option Int×az)
noncomputable def tO (K:.j)(Y0 Y9:Hp)(f:FO):TO:=fun σ H Q=>∃F τ o τ',aB K Y0 Y9 F H σ τ/\f τ=some (o,τ')/\∀F' H',aB K Y0 Y9 F' H' σ τ'->aJ F F'->Q o H'
def SO (X:Cx)(e:Option Expr)(f:FO):Prop:=∀Y0 Y9,PO X e (tO X.K Y0 Y9 f)
def eU:FO:=fun τ=>some (none,τ)
def dA (f:FE):FO:=fun τ=>(f τ).bind fun p=>match p.1 with | .int i=>some (some i,p.2) | _=>none
theorem PO.weak {t t':TO}(h:PO X e t)(i:∀σ H Q,t' σ H Q->t σ H Q):PO X e t':=.ec
theorem yS:SO X none eU:=fun Y0 Y9=>PO.weak Kz fun σ H Q G=>by
 obtain⟨F,τ,t,τ',E,e1,q⟩:=G
 cases e1
 exact q F H E .dQ
theorem mY (h:.fx):SO X (.aX e) (dA f):=fun Y0 Y9=>PO.weak (KA .cT) fun σ H Q G=>by
 obtain⟨F,τ,t,τ',E,e1,q⟩:=G
 obtain⟨⟨x,τ1⟩,e2,e1⟩:=bind_some e1
 dsimp only at e1
 split at e1
 ·cases e1
  exact⟨F,τ,_,_,E,e2,fun F' H' v Z s' Y=>by cases Y;exact⟨_,rfl,q F' H' Z s'⟩⟩
 ·cases e1
def sN (xs:List T)(lo hi:.fa):List T:=(xs.drop .hT).take .cA
noncomputable def Q5 (t:T)(lo hi:.fa):Option T:=match t with
 | .lst xs=>some (.lst (sN xs lo hi))
 | .scr xs=>some (.lst (sN xs lo hi))
 | .tup xs=>if HT.gc xs.length 0 lo=0/\HT.gc xs.length xs.length hi=xs.length then none else some (.tup (sN xs lo hi))
 |_=>none
theorem xm {K:.j}{F:Hp}{ts:List T}{vs:List V}(r:.f4)(lo hi:.fa):aM K F (sN ts lo hi) (sO vs lo hi):=by
 unfold sN sO
 rw [r.length]
 exact (r.drop _).take _
noncomputable def zm (f:FE)(fl fh:FO):FE:=fun τ=>(f τ).bind fun p=>(fl p.2).bind fun q=>(fh q.2).bind fun r=>(Q5 p.1 q.1 r.1).bind fun t=>some (t,r.2)
theorem pB {e:Expr}{lo hi:Option Expr}{f:FE}{fl fh:FO}{p2:Pos}(he:.fx)(hl:SO X lo fl)(P:SO X hi fh):SE X (.X e (.Slice lo hi none p2)) (zm f fl fh):=
 fun Y0 Y9=>PE.weak (Ir (Lj.or KZ NC) .eB (hl Y0 Y9) (P Y0 Y9)) fun σ H Q G=>by
  obtain⟨F,τ,t,τ',E,e1,q⟩:=G
  obtain⟨⟨x,τ1⟩,e2,e1⟩:=bind_some e1
  obtain⟨⟨l,τ2⟩,e3,e1⟩:=bind_some e1
  obtain⟨⟨h,S⟩,e4,e1⟩:=bind_some e1
  obtain⟨y,e5,e1⟩:=bind_some e1
  cases e1
  refine⟨F,τ,x,τ1,E,e2,fun F1 H1 v V s1 r1=>⟨F1,τ1,l,τ2,V,e3,fun F2 H2 O s2=>⟨F2,τ2,h,_,O,e4,fun F3 H3 T C=>?_⟩⟩⟩
  have r3:=Rep.mono (s2.trans C) r1
  have R:=T.g.fh
  dsimp only at e5
  unfold Q5 at e5
  split at e5
  ·cases e5
   obtain⟨p,xs,rfl,h1,h2⟩:=r3
   refine .inl ⟨p,xs,rfl,gE.of (R _ _ h1),fun a ha=>?_⟩
   have A:=aZ.new (.lst (sO xs l h)) R ha
   exact .av ⟨a,_,rfl,aF,aM.mono A.sF (xm h2 l h)⟩
  ·cases e5
   obtain⟨p,xs,rfl,h1,h2⟩:=r3
   refine .inl ⟨p,xs,rfl,R.seq h1,fun a ha=>?_⟩
   have A:=aZ.new (.lst (sO xs l h)) R ha
   exact .av ⟨a,_,rfl,aF,aM.mono A.sF (xm h2 l h)⟩
  ·split at e5
   ·cases e5
   ·next hn =>
    cases e5
    obtain⟨p,xs,rfl,h1,h2⟩:=r3
    refine .inr ⟨p,xs,rfl,bZ R h1,by rw [h2.length];exact hn,fun a ha=>?_⟩
    have A:=aZ.new (.tup (sO xs l h)) R ha
    exact .av ⟨a,_,rfl,mQ.of aF,aM.mono A.sF (xm h2 l h)⟩
  ·cases e5
theorem dq (i:Nat){p1 p2 p3:Pos}(c:PE X .gA (uA i))(he:.fx)
  (C:attributeBase .gA "append" X.env (.V .gA)=eval .gA X.env:=by rfl)
  (j:((backTo p3 .iW).all (fun x=>!x.1)&&(backToKw p3 .cR).all .gH&&decide ([e].length+([]:List Keyword).length+(if ([]:List Keyword).isEmpty then 0 else 1)<30))=true:=by rfl)
  (n:.hu=true:=by rfl) (hs:starEach [e] X.env=(.p e)::starEach [] X.env:=by rfl) (l:(backTo p3 .gF).any (·.1)=false:=by rfl)
  (S:swapsWith (.Call (.Attribute .gA "append" p2) [e] [] p3) none pos.line X.env=pure false:=by rfl):
  SS X (.Expr (.Call (.Attribute .gA "append" p2) [e] [] p3) pos) (eY i f):=fun Y0 Y9 =>
 PS.weak (pf (Ij zbn PySem.F.slot_list_append PySem.F.type_list_append wA c (kl .eB ue hs) C j n hs l) S) fun D σ H G=>by
  obtain⟨F,τ,r,E,e1,q⟩:=G
  unfold eY at e1
  split at e1
  ·next a h0 =>
   obtain⟨⟨t,τ1⟩,e2,e1⟩:=bind_some e1
   dsimp only at e1
   split at e1
   ·next ts h1 =>
    split at e1
    ·next hz =>
     cases e1
     obtain⟨v,g1,p,vs,rfl,g2,g3,z,L⟩:=E.sl i _ h0
     refine⟨_,g1,.inl ⟨rfl,vs,gE.of g2⟩,F,τ,t,τ1,E,e2,fun F' H' w Z s' Y=>?_⟩
     obtain⟨W,k1,d,u,rfl,k2,k3,N,k5⟩:=Z.sl i _ h1
     rw [g1] at k1;cases k1
     exact⟨p,u,w,rfl,rfl,k2,by rw [k5.length];exact hz,q F' _ σ (Z.turnOwn h1 g1 (k5.append (.one Y))) s'⟩
    ·cases e1
   ·cases e1
  ·cases e1
def ND (a b c:Int):Prop:=(0≤a/\a<2^62)/\(0≤b/\b<2^62)/\(1≤c/\c<2^29)
instance (a b c:Int):Decidable (ND a b c):=inferInstanceAs (Decidable ((_/\_)/\(_/\_)/\_/\_))
end
noncomputable def gg (b:Bool)(h:Heap)(it a:Addr)(i:Nat):Prop:=match b with
 |true=>h.IsListIter it a i
 |false=>h.IsTupleIter it a i
noncomputable def jN (b:Bool)(h:Heap)(a:Addr)(xs:.cP):Prop:=match b with
 |true=>h.IsList a xs
 |false=>h.IsTuple a xs
theorem gg.ext {b:Bool}{h h':Heap}{i:Nat}(x:gg b h it a i)(k:∀o,h.get? it=some o->h'.get? it=some o):gg b h' it a i:=by
 cases b with
 |true=>obtain⟨o,e,r⟩:=x;exact⟨o,k o e,r⟩
 |false=>obtain⟨o,e,r⟩:=x;exact⟨o,k o e,r⟩
theorem jN.ext {b:Bool}{h h':Heap}(x:jN b h a xs)(k:∀o,h.get? a=some o->h'.get? a=some o):jN b h' a xs:=by
 cases b with
 |true=>obtain⟨o,e,r⟩:=x;exact⟨o,k o e,r⟩
 |false=>obtain⟨o,e,r⟩:=x;exact⟨o,k o e,r⟩
theorem gg.obj {b:Bool}{i:Nat}(x:gg b h it a i):∃o,h.get? it=some o/\∀v,o.data≠.cell v:=by
 cases b with
 |true=>obtain⟨o,e,_,d⟩:=x;exact⟨o,e,fun v z=>by rw [d] at z;cases z⟩
 |false=>obtain⟨o,e,_,d⟩:=x;exact⟨o,e,fun v z=>by rw [d] at z;cases z⟩
section
variable {prog:.ai}{w:World}{A:Around}{E:.n}{s:Shared}
theorem ml {b:Bool}{i:Nat}{Q:.n}(h1:gg b s.heap it a i)(h2:jN b s.heap a xs)(hx:xs[i]? = some x)
  (d:∀h',gg b h' it a (i+1)->Heap.SameBut it s.heap h'->Q x { s with heap:=h' }):wpAny .O A (Builtin.SmallTypes.nextOf .hD) Q E s:=by
 cases b with
 |true=>exact wpAny_nextOf_list_item h1 h2 hx d
 |false =>
  have c:s.heap.IsTupleIter it a i:=h1
  obtain⟨o,ho,U,hd⟩:=id c
  obtain⟨ol,g,_,nl,f⟩:=(show s.heap.IsTuple a xs from h2)
  unfold Builtin.SmallTypes.nextOf
  refine wpAny_bind (wpAny_callSpecial?_slot (name:=Str.ofString "__next__") c.typeIs F.slot_tuple_iterator_next (wpAny_call_entry F.slot_tuple_iterator_next c.typeIs F.entry_tuple_iterator_next (?_:wpAny _ _ (.R it 0) _ _ s) (F.args_tuple_iterator_next_1 _)))
  refine .f (wpAny_field ho hd (x:=.ref a) rfl (?_:wpAny _ _ (if .fY=true then _ else _) _ _ s))
  rw [if_neg (show ¬ (.fY=true) from zaL)]
  refine (wpAny_bind (wpAny_field ho hd (x:=.int i 0) rfl ?_):wpAny _ _ (.R it 1) _ _ s)
  refine .f (wpAny_seqItems (a:=a) g f ?_)
  simp only [Int.toNat_natCast,hx]
  refine .f (wpAny_setField ho hd .f (.ah ⟨x,rfl,wpAny_pure (d _ ⟨_,Heap.get?_update_self _ ho (Obj.isFreed_of_fields (Obj.data_mapFields hd _)),(Obj.cls_mapFields ..).trans U,?_⟩ (Heap.SameBut.update ..))⟩))
  rw [Obj.data_mapFields hd]<;>simp [rawInt]
theorem tP {b:Bool}{i:Nat}(P:A.handled=none)(h1:gg b s.heap it a i)(h2:jN b s.heap a xs)(hx:xs[i]? = none)
  (d:∀h' e,Heap.ExtBut it s.heap h'->(∃o,h'.get? e=some o/\o.cls=.type "StopIteration")->E (.d e) { s with heap:=h' }):wpAny .O A (Builtin.SmallTypes.nextOf .hD) Q E s:=by
 cases b with
 |true=>exact wpAny_nextOf_list_end P h1 h2 hx d
 |false =>
  have c:s.heap.IsTupleIter it a i:=h1
  obtain⟨o,ho,U,hd⟩:=id c
  obtain⟨ol,g,_,nl,f⟩:=(show s.heap.IsTuple a xs from h2)
  unfold Builtin.SmallTypes.nextOf
  refine wpAny_bind (wpAny_callSpecial?_slot (name:=Str.ofString "__next__") c.typeIs F.slot_tuple_iterator_next (wpAny_call_entry F.slot_tuple_iterator_next c.typeIs F.entry_tuple_iterator_next (?_:wpAny _ _ (.R it 0) _ _ s) (F.args_tuple_iterator_next_1 _)))
  refine .f (wpAny_field ho hd (x:=.ref a) rfl (?_:wpAny _ _ (if .fY=true then _ else _) _ _ s))
  rw [if_neg (show ¬ (.fY=true) from zaL)]
  refine (wpAny_bind (wpAny_field ho hd (x:=.int i 0) rfl ?_):wpAny _ _ (.R it 1) _ _ s)
  refine .f (wpAny_seqItems (a:=a) g f ?_)
  simp only [Int.toNat_natCast,hx]
  refine .f (wpAny_rule (.L (wpAny_setField ho hd .f (wpAny_bind (m:=newExc (.type "StopIteration") []) ?_))))
  simp only [newExc,newTuple]
  refine wpAny_bind (wpAny_newObj_type (wpAny_bind (m:=firstArgMember _ _) (wpAny_of_eq (a:=Value.none) (by first | rfl | (simp only [firstArgMember];rfl)) (wpAny_newObj_type ?_ (by size_fits)))) (by size_fits))
  simp only [raiseNew]
  refine .f (wpAny_handled ?_)
  first | rw [show A.in1.handled=none from P] | rw [P]
  exact .f (.ah (wpAny_throw (d _ _ (((Heap.SameBut.update ..).extBut.push _).push _) ⟨_,.ac,rfl⟩)))
variable {z TI TO i1 i2 l1 l2:Addr}{k:Nat}{xs ys:.cP}{x y a b:Value}{c1 c2:Bool}
theorem Ji {Q:.n}(D:.ee)(hz:.gt)(hI:.eV)(hO:.jk)
  (h1:.jh) (h2:.jg) (j:.hJ) (r:.hH) (hx:xs[k]? = some x) (R:ys[k]? = some y)
  (d:∀h',IsZip h' z TI TO (rawInt s.heap.objs.size)->IsPair h' TO x y->gg c1 h' i1 l1 (k+1)->gg c2 h' i2 l2 (k+1)->IsPair h' s.heap.objs.size x y ->
   .aZ->Q .b5 { s with heap:=h' }):
  wpAny .O A (Builtin.«zip.__next__» ⟨[.ref z],[]⟩) (fun fin s'=>∃v,fin=.done (.ret v)/\Q v s') E s:=by
 refine (.ag (wpAny_field hz rfl (x:=.bool false) rfl ?_) (.R z 2))
 refine (.ag (wpAny_field hz rfl (x:=.ref TI) rfl ?_) (.R z 3))
 refine .f (wpAny_seqItems hI rfl ?_)
 refine (.bx (Builtin.SmallTypes.ownedTupleIsFree (.d z) >>= _))
 unfold Builtin.SmallTypes.ownedTupleIsFree
 refine .f (wpAny_field hz rfl (x:=.none) rfl .b7)
 simp only [if_true]
 refine .f (wpAny_rule (.L (wpAny_field hz rfl (x:=.ref TO) rfl (wpAny_bind (wpAny_setField_rec hz .f fun ha l sa=>?_)))))
 replace l:IsZip ha z TI TO .ellipsis:=l
 refine wpAny_bind ?_
 simp only [List.zipIdx_cons,List.zipIdx_nil,List.forIn_cons,List.forIn_nil]
 refine .q i1
 refine .f (ml .fV .ga hx fun hb kb N=>wpAny_pure ?_)
 have m:IsPair hb TO a b:=N.extBut _ _ D.TOi1 (sa.extBut _ _ D.TOz hO)
 refine .f (wpAny_seqItems m rfl (.L (wpAny_updateSeq_pair m fun U t sc=>wpAny_bind (wpAny_letGo .b7))))
 replace t:IsPair U TO x b:=t
 refine .q i2
 refine .f (ml (h2.ext fun o e=>sc.extBut _ _ D.TOi2.symm (N.extBut _ _ D.i12.symm (sa.extBut _ _ D.i2z e))) (r.ext fun o e=>sc.extBut _ _ D.l2TO (N.extBut _ _ D.l2i1 (sa.extBut _ _ D.l2z e))) R fun hd kd i=>wpAny_pure ?_)
 have G:IsPair hd TO x b:=i.extBut _ _ D.TOi2 t
 refine .f (wpAny_seqItems G rfl (.L (wpAny_updateSeq_pair G fun he h se=>wpAny_bind (wpAny_letGo (.ah .b7)))))
 replace h:IsPair he TO x y:=h
 refine .f (wpAny_seqItems h rfl (.L (wpAny_newTuple ?_)))
 have H:he.objs.size=s.heap.objs.size:=by rw [se.1,i.1,sc.1,N.1,sa.1]
 have I:.ba he:=se.extBut _ _ D.TOz.symm (i.extBut _ _ D.i2z.symm (sc.extBut _ _ D.TOz.symm (N.extBut _ _ D.i1z.symm l)))
 have J:∀c o,c≠z->c≠TO->c≠i1->c≠i2->s.heap.get? c=some o->he.get? c=some o:=fun c o O C g p e=>se.extBut _ _ C (i.extBut _ _ p (sc.extBut _ _ C (N.extBut _ _ g (sa.extBut _ _ O e))))
 have u:gg c1 he i1 l1 (k+1):=kb.ext fun o e=>se.extBut _ _ D.TOi1.symm (i.extBut _ _ D.i12 (sc.extBut _ _ D.TOi1.symm e))
 have B:gg c2 he i2 l2 (k+1):=kd.ext fun o e=>se.extBut _ _ D.TOi2.symm e
 have f:z<he.objs.size:=Heap.lt_size I
 refine (.bx (Builtin.SmallTypes.ownedTupleHandOut (.d z) (.ref he.objs.size) >>= _))
 unfold Builtin.SmallTypes.ownedTupleHandOut
 have K:.ba (he.push { cls:=.type "tuple", data:=.seq #[x,y] }):=Heap.get?_push_of_some _ I
 refine .f (wpAny_setField_rec K .f fun L F sg=>?_)
 replace F:IsZip L z TI TO (rawInt he.objs.size):=F
 refine wpAny_setField_rec F .f fun P q sh=>?_
 replace q:IsZip P z TI TO (rawInt he.objs.size):=q
 have up:∀c o,c≠z->he.get? c=some o->P.get? c=some o:=fun c o n e=>sh.extBut _ _ n (sg.extBut _ _ n (.X e))
 have tp:IsPair P he.objs.size x y:=sh.extBut _ _ (zaW f) (sg.extBut _ _ (zaW f) (.aG rfl))
 rw [H] at q tp
 refine wpAny_pure ⟨_,rfl,(?_:Q (.ref he.objs.size) _)⟩
 rw [H]
 exact d P q (up _ _ D.TOz h) (u.ext fun o e=>up _ o D.i1z e) (B.ext fun o e=>up _ o D.i2z e) tp fun c o O C g p e=>up c o O (J c o O C g p e)
theorem Ld (P:A.handled=none)(D:.ee)(hz:.gt)(hI:.eV)(hO:.jk)
  (h1:.jh) (h2:.jg) (j:.hJ) (r:.hH) (f:xs[k]? = none\/ys[k]? = none)
  (d:∀h' e,.aZ->(∃o,h'.get? e=some o/\o.cls=.type "StopIteration")->E (.d e) { s with heap:=h' }):
  wpAny .O A (Builtin.«zip.__next__» ⟨[.ref z],[]⟩) Q E s:=by
 refine (.ag (wpAny_field hz rfl (x:=.bool false) rfl ?_) (.R z 2))
 refine (.ag (wpAny_field hz rfl (x:=.ref TI) rfl ?_) (.R z 3))
 refine .f (wpAny_seqItems hI rfl ?_)
 refine (.bx (Builtin.SmallTypes.ownedTupleIsFree (.d z) >>= _))
 unfold Builtin.SmallTypes.ownedTupleIsFree
 refine .f (wpAny_field hz rfl (x:=.none) rfl .b7)
 simp only [if_true]
 refine .f (wpAny_rule (.L (wpAny_field hz rfl (x:=.ref TO) rfl (wpAny_bind (wpAny_setField_rec hz .f fun ha l sa=>?_)))))
 replace l:IsZip ha z TI TO .ellipsis:=l
 refine wpAny_bind ?_
 simp only [List.zipIdx_cons,List.zipIdx_nil,List.forIn_cons,List.forIn_nil]
 refine .q i1
 cases hx:xs[k]? with
 |none =>
  refine .f (tP P .fV .ga hx fun hb e N n=>?_)
  obtain⟨oe,ho,U⟩:=n
  have u:.ba hb:=N _ _ D.i1z.symm l
  have ne:e≠z:=fun q=>by subst q;rw [u] at ho;cases ho;simp at U
  exact wpAny_setField_rec u .f fun hd _ i=>d hd e (fun c o O _ g _ q=>i.extBut _ _ O (N _ _ g (sa.extBut _ _ O q))) ⟨oe,i.extBut _ _ ne ho,U⟩
 |some x =>
  have R:ys[k]? = none:=by rcases f with h | h;rw [hx] at h;cases h;exact h
  refine .f (ml .fV .ga hx fun hb kb N=>wpAny_pure ?_)
  have m:IsPair hb TO a b:=N.extBut _ _ D.TOi1 (sa.extBut _ _ D.TOz hO)
  refine .f (wpAny_seqItems m rfl (.L (wpAny_updateSeq_pair m fun U t sc=>wpAny_bind (wpAny_letGo .b7))))
  refine .q i2
  refine .f (tP P (h2.ext fun o e=>sc.extBut _ _ D.TOi2.symm (N.extBut _ _ D.i12.symm (sa.extBut _ _ D.i2z e))) (r.ext fun o e=>sc.extBut _ _ D.l2TO (N.extBut _ _ D.l2i1 (sa.extBut _ _ D.l2z e))) R fun hd e i n=>?_)
  obtain⟨oe,ho,hk⟩:=n
  have v:.ba hd:=i _ _ D.i2z.symm (sc.extBut _ _ D.TOz.symm (N.extBut _ _ D.i1z.symm l))
  have ne:e≠z:=fun q=>by subst q;rw [v] at ho;cases ho;simp at hk
  exact wpAny_setField_rec v .f fun hf _ B=>d hf e (fun c o O C g p q=>B.extBut _ _ O (i _ _ p (sc.extBut _ _ C (N.extBut _ _ g (sa.extBut _ _ O q))))) ⟨oe,B.extBut _ _ ne ho,hk⟩
theorem zi {Q:Option Value->Shared->Prop}(D:.ee)(hz:.gt)(hI:.eV)(hO:.jk)
  (h1:.jh) (h2:.jg) (j:.hJ) (r:.hH) (hx:xs[k]? = some x) (R:ys[k]? = some y)
  (d:∀h',IsZip h' z TI TO (rawInt s.heap.objs.size)->IsPair h' TO x y->gg c1 h' i1 l1 (k+1)->gg c2 h' i2 l2 (k+1)->IsPair h' s.heap.objs.size x y ->
   .aZ->Q (.aX .b5) { s with heap:=h' }):wpAny .O A (pyNext (.d z)) Q E s:=by
 have t:s.TypeIs (.d z) "zip" := ⟨_,hz,rfl⟩
 unfold pyNext
 exact wpAny_bind (wpAny_attempt (wpAny_callSpecial?_slot (name:=Str.ofString "__next__") t F.slot_zip_next (wpAny_call_entry F.slot_zip_next t F.entry_zip_next
  (Ji D hz hI hO h1 h2 j r hx R fun h' a1 a2 a3 Y i Z=>wpAny_pure (d h' a1 a2 a3 Y i Z)) (F.args_zip_next_1 _))))
theorem Bj {Q:Option Value->Shared->Prop}(P:A.handled=none)(D:.ee)(hz:.gt)(hI:.eV)(hO:.jk)
  (h1:.jh) (h2:.jg) (j:.hJ) (r:.hH) (f:xs[k]? = none\/ys[k]? = none)
  (d:∀h',.aZ->Q none { s with heap:=h' }):wpAny .O A (pyNext (.d z)) Q E s:=by
 have t:s.TypeIs (.d z) "zip" := ⟨_,hz,rfl⟩
 unfold pyNext
 refine wpAny_bind (wpAny_attempt (wpAny_callSpecial?_slot (name:=Str.ofString "__next__") t F.slot_zip_next (wpAny_call_entry F.slot_zip_next t F.entry_zip_next
  (Ld P D hz hI hO h1 h2 j r f fun h' e hk n=>?_) (F.args_zip_next_1 _))))
 obtain⟨o,ho,U⟩:=n
 exact .f (wpAny_isInstance (T := "StopIteration") (b:=true) ⟨o,ho,U⟩ isSubtype_stop (.ah (d _ hk)))
end
noncomputable def B5 (b:Bool)(l:Addr):Obj:=match b with
 |true=>{ cls:=.type "list_iterator", data:=.fields #[.ref l,.int 0 0] }
 |false=>{ cls:=.type "tuple_iterator", data:=.fields #[.ref l,.int 0 0] }
theorem DC {b:Bool}{l it:Addr}{h:Heap}(e:h.get? it=some (B5 b l)):gg b h it l 0:=by
 cases b with
 |true=>exact⟨_,e,rfl,rfl⟩
 |false=>exact⟨_,e,rfl,rfl⟩
abbrev RB (h:Heap)(c1:Bool)(l1:Addr):Heap:=h.push (B5 c1 l1)
abbrev RC (h:Heap)(c1 c2:Bool)(l1 l2:Addr):Heap:=(RB h c1 l1).push (B5 c2 l2)
noncomputable abbrev RD (h:Heap)(c1 c2:Bool)(l1 l2:Addr):Heap:=(RC h c1 c2 l1 l2).push { cls:=.type "tuple", data:=.seq #[.ref h.objs.size,.ref (RB h c1 l1).objs.size] }
noncomputable abbrev RE (h:Heap)(c1 c2:Bool)(l1 l2:Addr):Heap:=(RD h c1 c2 l1 l2).push { cls:=.type "tuple", data:=.seq #[.none,.none] }
noncomputable abbrev Oo (h:Heap)(c1 c2:Bool)(l1 l2:Addr):Heap:=(RE h c1 c2 l1 l2).push { cls:=.type "zip", data:=.fields #[.none,.bool false,.bool false,.ref (RC h c1 c2 l1 l2).objs.size,.ref (RD h c1 c2 l1 l2).objs.size] }
noncomputable abbrev Gi (c1 c2:Bool)(l1 l2:Addr)(xs ys:.cP):Prop:=Meets (Builtin.«zip.__new__» ⟨[.type "zip", .ref l1,.ref l2],[]⟩) (fun _ R s=>jN c1 s.heap l1 xs/\jN c2 s.heap l2 ys /\
   R (.ok (.ret (.ref (RE s.heap c1 c2 l1 l2).objs.size))) { s with heap:=Oo s.heap c1 c2 l1 l2 })
theorem CS (l1 l2:Addr)(xs ys:.cP):Gi true true l1 l2 xs ys:=.of_wp fun prog w A R s h=>by
 obtain⟨hp,g,d,tk,os⟩:=s
 obtain⟨q1,q2,h⟩:=h
 have a:=sub_zip
 have p1:Heap.IsList .eT l1 xs:=q1
 have p2:Heap.IsList (Shared.heap ⟨hp.push { cls:=.type "list_iterator", data:=.fields #[.ref l1,.int 0 0] },g,d,tk,os⟩) l2 ys:=Heap.IsList.push q2 _
 wp_walk using wpAny_pyIter_list p1,wpAny_pyIter_list p2
 exact⟨_,rfl,h⟩
theorem CQ (l1 l2:Addr)(xs ys:.cP):Gi true false l1 l2 xs ys:=.of_wp fun prog w A R s h=>by
 obtain⟨hp,g,d,tk,os⟩:=s
 obtain⟨q1,q2,h⟩:=h
 have a:=sub_zip
 have p1:Heap.IsList .eT l1 xs:=q1
 have p2:Heap.IsTuple (Shared.heap ⟨hp.push { cls:=.type "list_iterator", data:=.fields #[.ref l1,.int 0 0] },g,d,tk,os⟩) l2 ys:=Heap.IsTuple.push q2 _
 wp_walk using wpAny_pyIter_list p1,wpAny_pyIter_tuple p2
 exact⟨_,rfl,h⟩
theorem CP (l1 l2:Addr)(xs ys:.cP):Gi false true l1 l2 xs ys:=.of_wp fun prog w A R s h=>by
 obtain⟨hp,g,d,tk,os⟩:=s
 obtain⟨q1,q2,h⟩:=h
 have a:=sub_zip
 have p1:Heap.IsTuple .eT l1 xs:=q1
 have p2:Heap.IsList (Shared.heap ⟨hp.push { cls:=.type "tuple_iterator", data:=.fields #[.ref l1,.int 0 0] },g,d,tk,os⟩) l2 ys:=Heap.IsList.push q2 _
 wp_walk using wpAny_pyIter_tuple p1,wpAny_pyIter_list p2
 exact⟨_,rfl,h⟩
theorem CO (l1 l2:Addr)(xs ys:.cP):Gi false false l1 l2 xs ys:=.of_wp fun prog w A R s h=>by
 obtain⟨hp,g,d,tk,os⟩:=s
 obtain⟨q1,q2,h⟩:=h
 have a:=sub_zip
 have p1:Heap.IsTuple .eT l1 xs:=q1
 have p2:Heap.IsTuple (Shared.heap ⟨hp.push { cls:=.type "tuple_iterator", data:=.fields #[.ref l1,.int 0 0] },g,d,tk,os⟩) l2 ys:=Heap.IsTuple.push q2 _
 wp_walk using wpAny_pyIter_tuple p1,wpAny_pyIter_tuple p2
 exact⟨_,rfl,h⟩
theorem vK (c1 c2:Bool)(l1 l2:Addr)(xs ys:.cP):Gi c1 c2 l1 l2 xs ys:=by
 cases c1<;>cases c2
 ·exact CO l1 l2 xs ys
 ·exact CP l1 l2 xs ys
 ·exact CQ l1 l2 xs ys
 ·exact CS l1 l2 xs ys
section
variable {prog:.ai}{w:World}{A:Around}{E:.n}{s:Shared}
theorem Gw {c1 c2:Bool}{Q:.n}(q1:.hJ)(q2:.hH)
  (h:∀h',IsZip h' (s.heap.objs.size+4) .dm (s.heap.objs.size+3) .none->IsPair h' .dm .b5 (.d .ar) ->
   IsPair h' (s.heap.objs.size+3) .none .none->gg c1 h' s.heap.objs.size l1 0->gg c2 h' .ar l2 0->(∀c o,s.heap.get? c=some o->h'.get? c=some o)->Q (.d (s.heap.objs.size+4)) { s with heap:=h' }):
  wpAny .O A (call (.type "zip") [.ref l1,.ref l2]) Q E s:=by
 refine callType_new F.called_zip .e (F.typeCall_zip_2 _ _) (F.newCall_zip_2 _ _) (fun obj=>F.args_object_init_3 obj _ _) F.entry_zip_new (vK c1 c2 l1 l2 xs ys) ⟨q1,q2,?_⟩
 have U:(RB s.heap c1 l1).objs.size=s.heap.objs.size+1:=Heap.size_push ..
 have D:(RC s.heap c1 c2 l1 l2).objs.size=s.heap.objs.size+2:=by rw [Heap.size_push,U]
 have k:(RD s.heap c1 c2 l1 l2).objs.size=s.heap.objs.size+3:=by rw [Heap.size_push,D]
 have a:(RE s.heap c1 c2 l1 l2).objs.size=s.heap.objs.size+4:=by rw [Heap.size_push,k]
 have p:∀{h:Heap} {o:Obj} {c:Addr} {u:Obj},h.get? c=some u->(h.push o).get? c=some u:=fun e=>Heap.get?_push_of_some _ e
 have O:(B5 c1 l1).isFreed=false:=by cases c1<;>rfl
 have C:(B5 c2 l2).isFreed=false:=by cases c2<;>rfl
 have L:(Oo s.heap c1 c2 l1 l2).get? (RE s.heap c1 c2 l1 l2).objs.size=some _:=.ac
 have z:(Oo s.heap c1 c2 l1 l2).get? (RD s.heap c1 c2 l1 l2).objs.size=some _:=p (.aG rfl)
 have g3:(Oo s.heap c1 c2 l1 l2).get? (RC s.heap c1 c2 l1 l2).objs.size=some _:=p (p (.aG rfl))
 have g2:(Oo s.heap c1 c2 l1 l2).get? (RB s.heap c1 l1).objs.size=some (B5 c2 l2):=p (p (p (.aG C)))
 have g1:(Oo s.heap c1 c2 l1 l2).get? s.heap.objs.size=some (B5 c1 l1):=p (p (p (p (.aG O))))
 show _/\_
 rw [D,k,a] at L
 rw [U,D] at g3
 rw [k] at z
 rw [U] at g2
 rw [a]
 exact⟨⟨_,L,rfl⟩,h _ L g3 z (DC g1) (DC g2) fun c o x=>p (p (p (p (p x))))⟩
end
noncomputable def zr (b:Bool)(K:.j)(H:Hp)(a:Addr)(xs:List V):Prop:=match b with
 |true=>gE K H a xs
 |false=>mQ K H a xs
noncomputable def RP (K:.j)(c1 c2:Bool)(l1 l2:Addr):It:=
  ⟨fun i H=>∃xs ys x y,zr c1 K H l1 xs/\zr c2 K H l2 ys/\xs[i]? = some x/\ys[i]? = some y,
   fun i H v H'=>∃p x y,v=.ref p/\H p=none/\H'=upd H p .iz/\(∀xs,zr c1 K H l1 xs->xs[i]? = some x)/\∀ys,zr c2 K H l2 ys->ys[i]? = some y,
   fun i H=>∃xs ys,zr c1 K H l1 xs/\zr c2 K H l2 ys/\(xs.length≤i\/ys.length≤i)⟩
section
variable {X:Cx}{pins:.s}{σ:L2.St}{H:Hp}{s:Shared}
theorem kP {b:Bool}(I:.q)(h:zr b X.K H a xs):∃G:List Value,Vals xs G/\jN b s.heap a G.toArray:=by
 cases b with
 |true=>obtain⟨G,r,p,_⟩:=I.list h;exact⟨G,r,p.isList⟩
 |false=>obtain⟨G,r,p,_⟩:=I.tuple h;exact⟨G,r,p⟩
theorem Ek {b:Bool}(I:.q)(h:zr b X.K H a xs)(h':zr b X.K H a ys):xs=ys:=by
 cases b with
 |true=>exact I.list_inj h h'
 |false=>exact I.tuple_inj h h'
end
structure TX (c1 c2:Bool)(z TI TO i1 i2 l1 l2:Addr)(i:Nat)(h:Heap):Prop where
 hz:IsZip h z TI TO .none
 hI:IsPair h TI (.d i1) (.d i2)
 hO:∃a b,IsPair h TO a b
 h1:gg c1 h i1 l1 i
 h2:gg c2 h i2 l2 i
theorem uE {h':Heap}{fp:.V}(I:.q)(hf:∀b∈fp,si X pins H b)(k:∀b o,b∉fp->s.heap.get? b=some o->h'.get? b=some o):.bo:=by
 have a:∀b u,H b=some u->b∉fp:=fun b u e z=>by rw [(hf b z).1] at e;cases e
 refine I.step (g':=s.gens) (d':=s.drawn) (t':=s.toks) (ch:=fp) (fun b hb=>?_) (fun b o _ _ U e _=>k b o U e) (fun b o _ _ U e _=>⟨o.slots,k b o U e⟩) (fun _ _ _ _ n=>n)
  (fun b o U e=>⟨o,k b o U e⟩) (fun _ _ e=>e) (fun _ _ _ e=>e) (fun b ps e=>⟨#[],by rw [e];simp⟩) (fun m hm=>?_) (fun b u e=>?_) I.bare
 ·obtain⟨_,f1,_,M,f4,F⟩:=hf b hb
  exact⟨M,f1,f4,F⟩
 ·obtain⟨o,es,ep,ho,r⟩:=hm
  exact⟨o,es,ep,k _ o (fun z=>(hf _ z).2.1 rfl) ho,r⟩
 ·refine (I.hok b u e).stay (fun c v U q=>k c v ?_ q) (fun _ q=>q) fun _ _ q=>q
  rcases U with z | z
  ·rw [z];exact a b u e
  ·exact a c _ z
theorem Jc {P:.ai}{w:World}{K:.j}{elts:.av}{kx:Nat}{px:Pos}{c1 c2:Bool}{z TI TO i1 i2 l1 l2:Addr}(D:.ee):
  Turn P w K .en (RP K c1 c2 l1 l2) [z,TI,TO,i1,i2] z (TX c1 c2 z TI TO i1 i2 l1 l2) where
 mem:=.f
 obj:=fun i h st b hb=>by
  simp only [List.mem_cons,List.not_mem_nil,or_false] at hb
  rcases hb with rfl | rfl | rfl | rfl | rfl
  ·exact⟨_,st.hz,fun v q=>nomatch (show Data.fields _=Data.cell v from q)⟩
  ·exact⟨_,st.hI,fun v q=>nomatch (show Data.seq _ _=Data.cell v from q)⟩
  ·obtain⟨a,b,e⟩:=st.hO
   exact⟨_,e,fun v q=>nomatch (show Data.seq _ _=Data.cell v from q)⟩
  ·exact st.h1.obj
  ·exact st.h2.obj
 keep:=fun i h h' st k=>by
  obtain⟨a,b,e⟩:=st.hO
  exact⟨k z .f _ st.hz,k TI .f _ st.hI,⟨a,b,k TO .f _ e⟩,st.h1.ext fun o e=>k i1 .f o e,st.h2.ext fun o e=>k i2 .f o e⟩
 item:=fun X j B T U i pins s σ H E I hf st L=>by
  subst j B T
  obtain⟨xs,ys,x,y,q1,q2,g1,g2⟩:=L
  obtain⟨G,r1,p1⟩:=kP I q1
  obtain⟨A,r2,p2⟩:=kP I q2
  obtain⟨u,e1,S⟩:=r1.get g1
  obtain⟨v,e2,f⟩:=r2.get g2
  obtain⟨a,b,hO⟩:=st.hO
  refine zi D st.hz st.hI hO st.h1 st.h2 p1 p2 (x:=u) (y:=v) (by simpa using e1) (by simpa using e2) fun h' a1 a2 a3 Y t Z=>⟨_,rfl,?_⟩
  refine wpAny_letOwnedTupleGo_zip (s:={ s with heap:=h' }) a1 fun h2 b1 b2=>?_
  have kp:∀b o,b∉[z,TI,TO,i1,i2]->s.heap.get? b=some o->h2.get? b=some o:=fun b o hb e=>by
   simp only [List.mem_cons,List.not_mem_nil,or_false,not_or] at hb
   exact b2.extBut _ _ hb.1 (Z b o hb.1 hb.2.2.1 hb.2.2.2.1 hb.2.2.2.2 e)
  have Q:z<s.heap.objs.size:=Heap.lt_size st.hz
  have pr:IsPair h2 s.heap.objs.size u v:=b2.extBut _ _ (zaW Q) t
  have fr:.cF:=I.hok.fresh .bJ
  have R:lF X.prog X.w (.J .iz) h2:=by
   intro c o e
   by_cases l:c=s.heap.objs.size
   ·subst l
    rw [aF] at e;cases e
    exact⟨by show 2≤sizeLine;decide,[u,v],.cons S (.aD f),_,pr,rfl,_,rfl⟩
   ·rw [ay l] at e
    have N:∀d o',H d=some o'->d∉[z,TI,TO,i1,i2]:=fun d o' p hd=>by rw [(hf d hd).1] at p;cases p
    have up:∀d o',H d=some o'->upd H s.heap.objs.size .iz d=some o':=fun d o' p=>by rw [ay (bg p fr)];exact p
    refine (I.hok c o e).stay .jA (fun d q=>up d _ q) fun d xs q=>up d _ q
    rcases hd with rfl | hd
    ·exact N _ o e
    ·exact N d _ hd
  have J:Inv X pins σ (.J .iz) { s with heap:=h2 }:=by
   have ne:∀b o,s.heap.get? b=some o->b≠s.heap.objs.size:=fun b o e=>zas .aJ
   refine I.step (g':=s.gens) (d':=s.drawn) (t':=s.toks) (ch:=[z,TI,TO,i1,i2]) (fun b hb=>?_) .h5 .e0 (fun b o _ e n=>by rw [ay (ne b o e)];exact n)
    .hv (fun b xs e=>by rw [ay .jE];exact e) (fun b o u e=>by rw [ay .jE];exact e) (fun b ps e=>⟨#[],by rw [ay .jE,e];simp⟩) (fun m hm=>?_) R I.bare
   ·obtain⟨_,f1,_,M,f4,F⟩:=hf b hb
    exact⟨M,f1,f4,F⟩
   ·obtain⟨o,es,ep,ho,r⟩:=hm
    exact⟨o,es,ep,kp _ o (fun q=>(hf _ q).2.1 rfl) ho,r⟩
  refine⟨.ref s.heap.objs.size,_,J,rfl,⟨_,x,y,rfl,fr,rfl,fun V h=>by rw [Ek I h q1];exact g1,fun ys' h=>by rw [Ek I h q2];exact g2⟩,?_,fun b hb=>?_⟩
  ·exact⟨b1,b2.extBut _ _ D.TIz (Z _ _ D.TIz D.TITO D.TIi1 D.TIi2 st.hI),⟨_,_,b2.extBut _ _ D.TOz a2⟩,a3.ext fun o e=>b2.extBut _ _ D.i1z e,Y.ext fun o e=>b2.extBut _ _ D.i2z e⟩
  ·obtain⟨o,e,_⟩:∃o,s.heap.get? b=some o/\True:=by
    simp only [List.mem_cons,List.not_mem_nil,or_false] at hb
    rcases hb with rfl | rfl | rfl | rfl | rfl
    ·exact⟨_,st.hz,trivial⟩
    ·exact⟨_,st.hI,trivial⟩
    ·exact⟨_,hO,trivial⟩
    ·obtain⟨o,e,_⟩:=st.h1.obj;exact⟨o,e,trivial⟩
    ·obtain⟨o,e,_⟩:=st.h2.obj;exact⟨o,e,trivial⟩
   rw [ay (zas .aJ)]
   exact (hf b hb).1
 done:=fun X j B T U i pins s σ H E I hf st L=>by
  subst j B T
  obtain⟨xs,ys,q1,q2,g⟩:=L
  obtain⟨G,r1,p1⟩:=kP I q1
  obtain⟨A,r2,p2⟩:=kP I q2
  obtain⟨a,b,hO⟩:=st.hO
  have O:=r1.length
  have C:=r2.length
  refine Bj .dk D st.hz st.hI hO st.h1 st.h2 p1 p2 ?_ fun h' k=>⟨rfl,uE I hf fun b o hb e=>?_⟩
  ·rcases g with g | g
   ·exact .inl .i
   ·exact .inr .i
  ·simp only [List.mem_cons,List.not_mem_nil,or_false,not_or] at hb
   exact k b o hb.1 hb.2.2.1 hb.2.2.2.1 hb.2.2.2.2 e
 self:=fun _ _ _ _ _ st h=>wpAny_pyIter_zip st.hz h
noncomputable def Qn:T->Option (Bool×List T)
 | .lst ts=>some (true,ts)
 | .scr ts=>some (true,ts)
 | .tup ts=>some (false,ts)
 |_=>none
theorem Ej {K:.j}{F:Hp}{t:T}{v:V}{b:Bool}{ts:List T}(r:.ih)(e:Qn t=some (b,ts)):∃a xs,v=.ref a/\zr b K F a xs/\aM K F ts xs:=by
 cases t<;>simp only [Qn] at e<;>cases e
 ·exact r
 ·obtain⟨a,xs,h1,h2,M⟩:=r
  exact⟨a,xs,h1,gE.of h2,M⟩
 ·exact r
theorem zr.same {b:Bool}{K:.j}{H H':Hp}{a:Addr}{xs:List V}(s:aJ H H')(h:zr b K H a xs):zr b K H' a xs:=by
 cases b with
 |true=>exact s.seq h
 |false=>exact bZ s h
def iP:List T->List T->List T
 |x::xs,y::ys=>.tup [x,y]::iP xs ys
 |_,_=>[]
theorem qU:∀(xs ys:List T),(iP xs ys).length=min xs.length ys.length
 |[],_=>by simp [iP]
 |_::_,[]=>by simp [iP]
 |x::xs,y::ys=>by simp [iP,qU xs ys]
theorem uL:∀(xs ys:List T) (i:Nat) (t:T),(iP xs ys)[i]? = some t->∃x y,xs[i]? = some x/\ys[i]? = some y/\t=.tup [x,y]
 |[],_,i,t,e=>by simp [iP] at e
 |_::_,[],i,t,e=>by simp [iP] at e
 |x::xs,y::ys,0,t,e=>by simp [iP] at e;exact⟨x,y,rfl,rfl,e.symm⟩
 |x::xs,y::ys,i+1,t,e=>by
  obtain⟨a,b,h1,h2,M⟩:=uL xs ys i t (by simpa [iP] using e)
  exact⟨a,b,by simpa using h1,by simpa using h2,M⟩
theorem FV {K:.j}{F:Hp}{c1 c2:Bool}{l1 l2:Addr}{xs ys:List V}{ts us:List T}(h1:zr c1 K F l1 xs)(r1:aM K F ts xs)(h2:zr c2 K F l2 ys)(r2:aM K F us ys):Walks K F (iP ts us) (RP K c1 c2 l1 l2):=by
 refine⟨fun i t F1 H1 e s1 s2=>?_,fun i t F1 H1 x H2 e s1 s2 y=>?_,fun F1 H1 s1 s2=>⟨xs,ys,h1.same .a5,h2.same .a5,?_⟩⟩
 ·obtain⟨a,b,e1,e2,rfl⟩:=uL ts us i t e
  obtain⟨v,g1,_⟩:=r1.get e1
  obtain⟨w,g2,_⟩:=r2.get e2
  exact⟨xs,ys,v,w,h1.same .a5,h2.same .a5,g1,g2⟩
 ·obtain⟨p,v,w,rfl,hp,rfl,q1,q2⟩:=y
  obtain⟨a,b,e1,e2,rfl⟩:=uL ts us i t e
  obtain⟨c,g1,k1⟩:=r1.get e1
  obtain⟨B,g2,k2⟩:=r2.get e2
  have W:=q1 xs (h1.same .a5)
  have l:=q2 ys (h2.same .a5)
  rw [g1] at W;cases W
  rw [g2] at l;cases l
  have A:=aZ.new (.tup [v,w]) s2 hp
  exact⟨_,A,p,_,rfl,mQ.of aF,v,[w],rfl,Rep.mono .hs k1,w,[],rfl,Rep.mono .hs k2,rfl⟩
 ·rw [qU,r1.length,r2.length]
  omega
noncomputable def lU (g:FA):FA:=fun τ=>(g τ).bind fun p=>match p.1 with
 |[a,b]=>(Qn a).bind fun x=>(Qn b).bind fun y=>some (iP x.2 y.2,p.2)
 |_=>none
theorem Cu {X:Cx}{a b:Expr}{p pos:Pos}{ga:FA}{elts:.av}{kx:Nat}{px:Pos}(L:Gl X "zip")(hm:X.mg "zip" = none)(ha:SA X [a,b] ga)(hs:starEach [a,b] X.env=(.p a)::starEach [b] X.env:=by rfl)
  (T:(backTo pos (starEach [b] X.env)).any (·.1)=false:=by rfl):SI X .en (.Call (.Name "zip" p) [a,b] [] pos) (lU ga):=by
 intro Y0 Y9 pins s σ H R I ⟨F,τ,ts,τ',E,e1,q⟩
 obtain⟨⟨x,τ1⟩,e2,e1⟩:=bind_some e1
 dsimp only at e1
 split at e1
 ·next t u =>
  obtain⟨⟨c1,us⟩,e3,e1⟩:=bind_some e1
  obtain⟨⟨c2,ws⟩,e4,e1⟩:=bind_some e1
  cases e1
  refine Call_ (qb I L hm (show bootBuiltins "zip" = some (.type "zip") from rfl) (za7 (cF (ha Y0 Y9 pos pins s σ H (fun vs H'=>∃l1 l2 xs ys,vs=[.ref l1,.ref l2]/\zr c1 X.K H' l1 xs/\zr c2 X.K H' l2 ys/\R (RP X.K c1 c2 l1 l2) H') I ⟨F,τ,_,_,E,e2,fun F' H' vs Z s' Y=>?_⟩) fun vs s1 ⟨n,H1,O,r1,q1⟩=>?_) hs T))
  ·obtain⟨v1,r1,rfl,k1,v2,r2,rfl,k2,rfl⟩:=Y
   obtain⟨l1,xs,rfl,h1,h2⟩:=Ej k1 e3
   obtain⟨l2,ys,rfl,M,D⟩:=Ej k2 e4
   exact⟨l1,l2,xs,ys,rfl,h1.same Z.g.fh,M.same Z.g.fh,q F' H' _ Z s' (FV h1 h2 M D)⟩
  ·obtain⟨l1,l2,xs,ys,rfl,h1,h2,q1⟩:=q1
   cases r1 with
   |cons m y =>
    cases y with
    |cons B y =>
     cases y;cases m;cases B
     obtain⟨G,_,p1⟩:=kP O h1
     obtain⟨A,_,p2⟩:=kP O h2
     refine Gw p1 p2 fun h' a1 a2 a3 f i kp=>wpAny_pyIter_zip (s:={ s1 with heap:=h' }) a1 ?_
     have lt:∀{c:Bool} {l:Addr} {zs:.cP},jN c s1.heap l zs->l<s1.heap.objs.size:=fun {c l zs} h=>by
      cases c with
      |true=>obtain⟨o,e,_⟩:=h;exact Heap.lt_size e
      |false=>obtain⟨o,e,_⟩:=h;exact Heap.lt_size e
     have d:@LT.lt Nat _ l1 s1.heap.objs.size:=lt p1
     have C:@LT.lt Nat _ l2 s1.heap.objs.size:=lt p2
     have J:Inv X pins σ H1 { s1 with heap:=h' }:=O.kept (t':=s1.toks) kp
     refine⟨_,[_,_,_,_,_],_,_,H1,rfl,J,Jc (c1:=c1) (c2:=c2) (z:=s1.heap.objs.size+4) (TI:=s1.heap.objs.size+2) (TO:=s1.heap.objs.size+3) (i1:=s1.heap.objs.size) (i2:=s1.heap.objs.size+1) (l1:=l1) (l2:=l2) ?_,⟨a1,a2,⟨_,_,a3⟩,f,i⟩,fun b hb=>?_,q1⟩
     ·constructor<;>(refine (?_:@Ne Nat _ _);omega)
     ·have g:s1.heap.objs.size≤b:=by
       simp only [List.mem_cons,List.not_mem_nil,or_false] at hb
       rcases hb with rfl | rfl | rfl | rfl | rfl<;>omega
      exact .ad g
 ·cases e1
theorem Ac:bM [.non,.ty "int"]=some .Q:=rfl
theorem xX:bM [.non,.ty "bool"]=some .Q:=rfl
theorem Ad:bM [.non,.ty "str"]=some .Q:=rfl
theorem xZ:bM [.non,.ty "list"]=some .Q:=rfl
theorem uZ:bM [.non,.ig]=some .Q:=rfl
theorem xY:bM [.non,.ty "dict"]=some .Q:=rfl
theorem B0:bM [.non,.bx]=some .Q:=rfl
theorem BV {b:Bool}:bM [.f0,.ty "int"]=some .bE:=rfl
theorem zU {b:Bool}:bM [.f0,.ty "bool"]=some .bE:=rfl
theorem BW {b:Bool}:bM [.f0,.ty "str"]=some .Q:=rfl
theorem zW {b:Bool}:bM [.f0,.ty "list"]=some .Q:=rfl
theorem xN {b:Bool}:bM [.f0,.ig]=some .Q:=rfl
theorem zV {b:Bool}:bM [.f0,.ty "dict"]=some .Q:=rfl
theorem Fj {b:Bool}:bM [.f0,.bx]=some .Q:=rfl
theorem lZ {i:Int}:bM [.eQ,.ty "int"]=some .bE:=rfl
theorem xS {i:Int}:bM [.eQ,.ty "bool"]=some .Q:=rfl
theorem zZ {i:Int}:bM [.eQ,.ty "str"]=some .Q:=rfl
theorem xU {i:Int}:bM [.eQ,.ty "list"]=some .Q:=rfl
theorem uX {i:Int}:bM [.eQ,.ig]=some .Q:=rfl
theorem xT {i:Int}:bM [.eQ,.ty "dict"]=some .Q:=rfl
theorem BY {i:Int}:bM [.eQ,.bx]=some .Q:=rfl
theorem Ag:bM [.fM,.ty "int"]=some .Q:=rfl
theorem yd:bM [.fM,.ty "bool"]=some .Q:=rfl
theorem Ah:bM [.fM,.ty "str"]=some .bE:=rfl
theorem yf:bM [.fM,.ty "list"]=some .Q:=rfl
theorem vb:bM [.fM,.ig]=some .Q:=rfl
theorem ye:bM [.fM,.ty "dict"]=some .Q:=rfl
theorem B3:bM [.fM,.bx]=some .Q:=rfl
theorem Ai:bM [.iy,.ty "int"]=some .Q:=rfl
theorem yg:bM [.iy,.ty "bool"]=some .Q:=rfl
theorem Aj:bM [.iy,.ty "str"]=some .Q:=rfl
theorem yi:bM [.iy,.ty "list"]=some .Q:=rfl
theorem vc:bM [.iy,.ig]=some .bE:=rfl
theorem yh:bM [.iy,.ty "dict"]=some .Q:=rfl
theorem B4:bM [.iy,.bx]=some .bE:=rfl
theorem Aa:bM [.dH,.ty "int"]=some .Q:=rfl
theorem xV:bM [.dH,.ty "bool"]=some .Q:=rfl
theorem Ab:bM [.dH,.ty "str"]=some .Q:=rfl
theorem kc:bM [.dH,.ty "list"]=some .bE:=rfl
theorem uY:bM [.dH,.ig]=some .Q:=rfl
theorem xW:bM [.dH,.ty "dict"]=some .Q:=rfl
theorem BZ:bM [.dH,.bx]=some .bE:=rfl
theorem Ae:bM [(.scr ts),.ty "int"]=some .Q:=rfl
theorem ya:bM [(.scr ts),.ty "bool"]=some .Q:=rfl
theorem Af:bM [(.scr ts),.ty "str"]=some .Q:=rfl
theorem yc:bM [(.scr ts),.ty "list"]=some .bE:=rfl
theorem va:bM [(.scr ts),.ig]=some .Q:=rfl
theorem yb:bM [(.scr ts),.ty "dict"]=some .Q:=rfl
theorem B2:bM [(.scr ts),.bx]=some .bE:=rfl
theorem zX:bM [.dic,.ty "int"]=some .Q:=rfl
theorem xO:bM [.dic,.ty "bool"]=some .Q:=rfl
theorem zY:bM [.dic,.ty "str"]=some .Q:=rfl
theorem xR:bM [.dic,.ty "list"]=some .Q:=rfl
theorem uW:bM [.dic,.ig]=some .Q:=rfl
theorem xQ:bM [.dic,.ty "dict"]=some .bE:=rfl
theorem BX:bM [.dic,.bx]=some .Q:=rfl
theorem il (i j:Int):eO .eQ (.ak j)=some (.au (i=j)):=by
 show some (T.bl (i == j))=_
 rw [zbj]
theorem JK (i j:Int):jM .eQ (.ak j)=some (.bl (!decide (i=j))):=by
 show some (T.bl (!(i == j)))=_
 rw [zbj]
theorem Mo (i j:Bool):eO (.bl i) (.bl j)=some (.bl (i == j)):=rfl
theorem Mq (i j:Bool):jM (.bl i) (.bl j)=some (.bl (!(i == j))):=rfl
theorem Eu (i j:Int):vL i j ↔ (¬ j=0/\j.natAbs<B):=Iff.rfl
theorem Ew (i j:Int):CT i j ↔ (i.natAbs<B/\j.natAbs<B):=Iff.rfl
theorem Jm (i j:Int):QJ i j ↔ ¬ j=0:=Iff.rfl
theorem aQ {n:Nat}(h:n≤1000):n≤sizeLine:=zbF (bX h)
theorem Ug:(0:Nat)≤sizeLine:=aQ .e
theorem Uh:(1:Nat)≤sizeLine:=aQ .e
theorem Tz:(2:Nat)≤sizeLine:=aQ .e
theorem TB:(3:Nat)≤sizeLine:=aQ .e
theorem Ui:(4:Nat)≤sizeLine:=aQ .e
theorem G4 {x y:T}:bI .iz (.ak 0)=some x:=rfl
theorem G5 {x y:T}:bI .iz (.ak 1)=some y:=rfl
theorem G2 {x y:T}:bI (.lst [x,y]) (.ak 0)=some x:=rfl
theorem G3 {x y:T}:bI (.lst [x,y]) (.ak 1)=some y:=rfl
theorem sR (a:Int):sQ [.int a]=some (.ak (a.natAbs:Int)):=by
 have e:(if a<0 then -a else a)=(a.natAbs:Int):=by split<;>omega
 simp only [sQ,e]
theorem qX:(2^64:Nat)<B:=.c
theorem zK (a:Int){b:Int}(h:0<b):0≤a.fmod b/\a.fmod b<b:=⟨Int.fmod_nonneg_of_pos _ h,Int.fmod_lt_of_pos _ h⟩
theorem JZ {ns:.e5}{k:Int}(h0:0≤k)(h1:k<(ns.length:Int)):bI (.scr .id) (.ak k)=some (.ak (ns.getD k.toNat 0)):=by
 show zj .id k=_
 obtain⟨j,rfl⟩:=Int.eq_ofNat_of_zero_le h0
 have hk:j<ns.length:=.d
 refine rG ?_
 rw [zaI,zav hk]
 simp [List.getD,List.getElem?_eq_getElem hk]
noncomputable def pP (env:Env):List (Str×NameKind)->List (Str×Addr)->List (Str×Addr)
 |[],acc=>acc
 |(x,k)::r,acc=>if k == .free then pP env r ((x,(env.cells.lookup x).getD 0)::acc) else pP env r acc
theorem qH (f:Str×NameKind->List (Str×Addr)->Sem (ForInStep (List (Str×Addr))))(hf:∀x k cs,f (x,k) cs=if k == .free then (do let a <- cellOf env x;pure (.yield ((x,a)::cs))) else pure (.yield cs)):
  ∀(names:.cO) (acc:.cD),(∀y∈names,y.2=.free->∃c,env.cells.lookup y.1=some c)->forIn names acc f=pure (pP env names acc)
 |[],acc,_=>by rw [List.forIn_nil];rfl
 |(x,k)::r,acc,R=>by
  rw [List.forIn_cons,hf]
  have A:=qH f hf r
  have hr:∀y∈r,y.2=.free->∃c,env.cells.lookup y.1=some c:=fun z hz=>R z .hZ
  cases hk:(k == NameKind.free) with
  |true =>
   obtain⟨c,U⟩:=R (x,k) zae (beq_iff_eq.mp hk)
   dsimp only at U
   simp only [if_true,pP,U,cellOf,pure_bind,Option.getD_some,hk]
   exact A _ hr
  |false =>
   simp only [Bool.false_eq_true,if_false,pP,pure_bind,hk]
   exact A _ hr
theorem jT {env:Env}{scope:Scope}(h:∀y∈scope.names,y.2=.free->∃c,env.cells.lookup y.1=some c):closureFor scope env=pure (pP env scope.names []):=by
 simp only [closureFor]
 rw [qH (env:=env) _ (fun x k cs=>by cases hk:k == NameKind.free<;>simp [hk]) scope.names [] h]
 rfl
theorem xi {env:Env}:∀(names:.cO) (acc:.cD) (x:Str) (c:Addr),(∀y∈names,y.2=.free->∃c,env.cells.lookup y.1=some c)->(x,c)∈pP env names acc->(x,c)∈acc\/(env.cells.lookup x=some c/\(x,NameKind.free)∈names)
 |[],acc,x,c,_,h=>.inl h
 |(y,k)::r,acc,x,c,R,h=>by
  unfold pP at h
  have hr:∀z∈r,z.2=.free->∃c,env.cells.lookup z.1=some c:=fun z hz=>R z .hZ
  cases hk:(k == NameKind.free) with
  |true =>
   rw [if_pos hk] at h
   rcases xi r _ x c hr h with h | h
   ·rcases zao.mp h with h | h
    ·cases h
     obtain⟨c,U⟩:=R (y,k) zae (beq_iff_eq.mp hk)
     dsimp only at U
     refine .inr ⟨by rw [U];rfl,?_⟩
     rw [beq_iff_eq.mp hk]
     exact zae
    ·exact .inl h
   ·exact .a1 ⟨h.1,zad _ h.2⟩
  |false =>
   rw [if_neg .jD] at h
   rcases xi r _ x c hr h with h | h
   ·exact .inl h
   ·exact .a1 ⟨h.1,zad _ h.2⟩
theorem fI:∀{l:.cD} {x:Str} {c:Addr},(x,c)∈l->∃d,l.lookup x=some d
 |(y,d)::r,x,c,h=>by
  rw [zbi]
  cases hb:x == y with
  |true=>exact⟨d,rfl⟩
  |false =>
   rcases zao.mp h with h | h
   ·cases h;simp at hb
   ·exact fI h
theorem rH:∀(names:.cO) (acc:.cD) (x:Str),((x,NameKind.free)∈names\/∃c,(x,c)∈acc)->∃c,(x,c)∈pP env names acc
 |[],acc,x,h=>by
  rcases h with h | h
  ·cases h
  ·exact h
 |(y,k)::r,acc,x,h=>by
  unfold pP
  cases hk:(k == NameKind.free) with
  |true =>
   rw [if_pos rfl]
   refine rH r _ x ?_
   rcases h with h | ⟨c,h⟩
   ·rcases zao.mp h with h | h
    ·cases h;exact .inr ⟨_,zae⟩
    ·exact .inl h
   ·exact .a1 ⟨c,zad _ h⟩
  |false =>
   rw [if_neg .e]
   refine rH r _ x ?_
   rcases h with h | h
   ·rcases zao.mp h with h | h
    ·cases h;cases hk
    ·exact .inl h
   ·exact .inr h
theorem By:∀(names:.cO) (n:Nat) (acc:.cD) (x:Str) (c:Addr),(x,c)∈cellsFrom n names acc->(x,c)∈acc\/(n≤c/\(x,NameKind.cell)∈names)
 |[],n,acc,x,c,h=>.inl h
 |(y,k)::r,n,acc,x,c,h=>by
  unfold cellsFrom at h
  cases hk:.iX with
  |true =>
   rw [if_pos hk] at h
   rcases By r _ _ x c h with h | ⟨h1,h2⟩
   ·rcases zao.mp h with h | h
    ·cases h
     refine .a1 ⟨zam _,?_⟩
     rw [beq_iff_eq.mp hk]
     exact zae
    ·exact .inl h
   ·exact .a1 ⟨Nat.le_of_succ_le h1,zad _ h2⟩
  |false =>
   rw [if_neg .jD] at h
   rcases By r _ _ x c h with h | ⟨h1,h2⟩
   ·exact .inl h
   ·exact .a1 ⟨h1,zad _ h2⟩
theorem Bx:∀(names:.cO) (n:Nat) (acc:.cD),(∀x y c,(x,c)∈acc->(y,c)∈acc->x=y)->(∀x c,(x,c)∈acc->@LT.lt Nat _ c n)->∀x y c,(x,c)∈cellsFrom n names acc->(y,c)∈cellsFrom n names acc->x=y
 |[],n,acc,h1,_,x,y,c,h,h'=>h1 x y c h h'
 |(z,k)::r,n,acc,h1,h2,x,y,c,h,h'=>by
  unfold cellsFrom at h h'
  cases hk:.iX with
  |true =>
   rw [if_pos hk] at h h'
   refine Bx r (n+1) _ (fun a b d ha hb=>?_) (fun a d ha=>?_) x y c h h'
   ·rcases zao.mp ha with ha | ha<;>rcases zao.mp hb with hb | hb
    ·cases ha;cases hb;rfl
    ·cases ha;exact absurd (h2 _ _ hb) (za4 _)
    ·cases hb;exact absurd (h2 _ _ ha) (za4 _)
    ·exact h1 a b d ha hb
   ·rcases zao.mp ha with ha | ha
    ·cases ha;exact zbf _
    ·exact zaK (h2 _ _ ha)
  |false =>
   rw [if_neg .jD] at h h'
   exact Bx r n acc h1 h2 x y c h h'
theorem sE:∀(names:.cO) (n:Nat) (acc:.cD) (x:Str),((x,.jp)∈names\/∃c,(x,c)∈acc)->∃c,(x,c)∈cellsFrom n names acc
 |[],n,acc,x,h=>by
  rcases h with h | h
  ·cases h
  ·exact h
 |(y,k)::r,n,acc,x,h=>by
  unfold cellsFrom
  cases hk:.iX with
  |true =>
   rw [if_pos rfl]
   refine sE r _ _ x ?_
   rcases h with h | ⟨c,h⟩
   ·rcases zao.mp h with h | h
    ·cases h;exact .inr ⟨_,zae⟩
    ·exact .inl h
   ·exact .a1 ⟨c,zad _ h⟩
  |false =>
   rw [if_neg .e]
   refine sE r _ _ x ?_
   rcases h with h | h
   ·rcases zao.mp h with h | h
    ·cases h;cases hk
    ·exact .inl h
   ·exact .inr h
theorem xh:∀(names:.cO) (h:Heap) (acc:.cD) (x:Str) (c:Addr),(x,c)∈cellsFrom h.objs.size names acc->(x,c)∈acc\/(pushCells h names).IsCell c none
 |[],h,acc,x,c,m=>.inl m
 |(y,k)::r,h,acc,x,c,m=>by
  unfold cellsFrom at m
  unfold pushCells
  cases hk:.iX with
  |true =>
   rw [if_pos hk] at m
   rw [if_pos rfl]
   have E:(x,c)∈cellsFrom (h.push { cls:=.type "cell", data:=.cell none }).objs.size r ((y,h.objs.size)::acc):=by rw [Heap.size_push];exact m
   rcases xh r _ _ x c E with m | m
   ·rcases zao.mp m with m | m
    ·cases m
     refine .inr ?_
     have q:(h.push { cls:=.type "cell", data:=.cell none }).IsCell h.objs.size none:=⟨_,.ac,rfl⟩
     exact q.keeps fun b o e=>pushCells_keeps r _ b o e
    ·exact .inl m
   ·exact .inr m
  |false =>
   rw [if_neg .jD] at m
   rw [if_neg .e]
   exact xh r h acc x c m
noncomputable def ji (X:Cx)(scope:Scope)(C:Addr)(cs:.cD):Env:=
 { newEnv scope C X.env.globals cs X.env.qual none .none (some X.env) builtinsNs with scope:=relabel scope X.env }
noncomputable def lN (X:Cx)(scope:Scope)(N':.U)(C:Addr)(cs:.cD)(Y8:Shared)(Y9:Hp)(fp:.V)(pins:.s):Cx:=
 { X with N:=N',Y8:=Y8,Y9:=Y9,env:=ji X scope C cs,outer:=X.stack,stack:=X.stack,ex:=fp,fn:=fun x=>scope.names.lookup x == some .cell,pn:=X.pn++pins,xe:=fun _ _=>False }
structure dP (X:Cx)(scope:Scope):Prop where
 kind:scope.kind=.function
 names:∀y∈scope.names,y.2=.local->scope.names.lookup y.1=some .local
 free:∀y∈scope.names,y.2=.free->(X.env.kindOf y.1=some .cell\/X.env.kindOf y.1=some .free)/\(y.1,NameKind.cell)∉scope.names/\scope.names.lookup y.1=some .free
theorem mem_of_lookupK:∀{l:.cO} {x:Str} {k:NameKind},l.lookup x=some k->(x,k)∈l
 |(y,d)::r,x,k,h=>by
  rw [zbi] at h
  cases hb:x == y with
  |true=>rw [hb] at h;cases h;rw [beq_iff_eq.mp hb];exact zae
  |false=>rw [hb] at h;exact zad _ (mem_of_lookupK h)
theorem hW {env:Env}:∀{names:.cO} {x:Str},names.lookup x=some .free ->
    ((names.map fun (n,k)=>if .a2 then (n,.jp) else (n,k)).lookup x=some .cell \/
     (names.map fun (n,k)=>if .a2 then (n,.jp) else (n,k)).lookup x=some .free)
  |(n,k)::r,x,h=>by
    rw [zbi] at h
    have en:∀y:Str×NameKind,y=(if .a2=true then (n,.jp) else (n,k))->y.1=n/\(y.2=.cell\/y.2=k):=fun y e=>by
      subst e
      split
      · exact⟨rfl,.inl rfl⟩
      · exact⟨rfl,.inr rfl⟩
    rw [zaf]
    dsimp only
    generalize R:(if .a2=true then (n,.jp) else (n,k))=y
    obtain⟨e1,e2⟩:=en y R.symm
    obtain⟨a,b⟩:=y
    dsimp only at e1 e2
    subst e1
    rw [zbi]
    cases hb:x == a with
    |true =>
      rw [hb] at h
      cases h
      rcases e2 with rfl | rfl
      · exact .inl rfl
      · exact .inr rfl
    |false =>
      rw [hb] at h
      exact hW h
theorem AO {X:Cx}{scope:Scope}{x:Str}(h:(ji X scope C cs).kindOf x=some .cell\/(ji X scope C cs).kindOf x=some .free):(x,.jp)∈scope.names\/(x,NameKind.free)∈scope.names:=by
 have key:∀k,(ji X scope C cs).kindOf x=some k->(k=.cell\/k=.free)->(x,NameKind.cell)∈scope.names\/(x,NameKind.free)∈scope.names:=fun k h hk=>by
  have m:=mem_of_lookupK (show (relabel scope X.env).names.lookup x=some k from h)
  unfold relabel at m
  obtain⟨⟨y,j⟩,W,l⟩:=zai.mp m
  dsimp only at l
  split at l
  ·next U =>
   cases l
   simp only [Bool.and_eq_true,beq_iff_eq] at U
   rw [U.1.1] at W
   exact .inr W
  ·cases l
   rcases hk with rfl | rfl
   ·exact .inl W
   ·exact .inr W
 rcases h with h | h
 ·exact key _ h .bc
 ·exact key _ h (.inr rfl)
section
variable {X:Cx}{pins:.s}{σ:L2.St}{H:Hp}{s:Shared}{scope:Scope}{fp:.V}{N':.U}{σ':L2.St}
abbrev CY:Obj:={ cls:=.type "list", dict:=none,data:=.seq ([]:List Value).toArray }
abbrev lP:Obj:={ cls:=.type "dict", data:=.dict #[] }
def hA (acc:Obj)(h:Heap)(scope:Scope):Heap:=pushCells ((h.push acc).push lP) scope.names
abbrev h0 (h:Heap)(scope:Scope):Heap:=hA CY h scope
theorem iZ {acc:Obj}{h:Heap}{b:Addr}{o:Obj}(e:h.get? b=some o):(hA acc h scope).get? b=some o:=pushCells_keeps _ _ _ _ (.X (Heap.get?_push_of_some _ e))
theorem Dw {h:Heap}{b:Addr}{o:Obj}(e:h.get? b=some o):(h0 h scope).get? b=some o:=iZ e
theorem Mt {acc:Obj}(h:Heap)(ha:acc.isFreed=false):(hA acc h scope).get? h.objs.size=some acc:=pushCells_keeps _ _ _ _ (.X (.aG ha))
theorem sA (acc:Obj)(u:HO)(new:di X.prog X.w (.J u) (hA acc s.heap scope) s.heap.objs.size u)(I:.q)(B:.gm)(hf:∀b∈fp,si X pins H b)(ho:∀b∈fp,∃o,s.heap.get? b=some o)(hl:σ'.length=N'.length)
  (cap:∀(i:Nat) (x:Str) (v:V),N'[i]? = some x->σ'[i]? = some .cY->((x,NameKind.free)∈scope.names/\∃j:Nat,X.N[j]? = some x/\σ[j]? = some .cY)\/¬ N3 (relabel scope X.env) x) {tk:Nat} :
  Inv (lN X scope N' .ar (cellsFrom .dm scope.names .bf) s H fp pins) [] σ' (.J u) { s with heap:=hA acc s.heap scope,toks:=tk }:=by
 have L:(s.heap.push acc).objs.size=s.heap.objs.size+1:=Heap.size_push ..
 have k:((s.heap.push acc).push lP).objs.size=s.heap.objs.size+2:=by rw [Heap.size_push,L]
 have G:∀y∈scope.names,y.2=.free->∃c,X.env.cells.lookup y.1=some c:=.ca
 have g:∀x c,(x,c)∈pP X.env scope.names []->X.env.cells.lookup x=some c/\(x,NameKind.free)∈scope.names:=fun x c h=>by
  rcases xi _ _ x c G h with h | h
  ·cases h
  ·exact h
 have D:∀x c,(x,c)∈pP X.env scope.names []->@LT.lt Nat _ c s.heap.objs.size:=fun x c h=>by
  obtain⟨v,q⟩:=I.cell x c (g x c h).1
  exact q.lt
 have E:∀x c,(x,c)∈cellsFrom .dm scope.names .bf->(X.env.cells.lookup x=some c/\(x,NameKind.free)∈scope.names/\@LT.lt Nat _ c s.heap.objs.size)\/(@LE.le Nat _ .dm c/\(x,NameKind.cell)∈scope.names):=fun x c h=>by
  rcases By _ _ _ x c h with h | h
  ·exact .inl ⟨(g x c h).1,(g x c h).2,D x c h⟩
  ·exact .inr h
 have A:.cF:=I.fresh
 have up:∀b:Addr,@LT.lt Nat _ b s.heap.objs.size->upd H s.heap.objs.size u b=H b:=fun b hb=>ay (zas hb)
 have O:∀b:Addr,@LT.lt Nat _ s.heap.objs.size b->upd H s.heap.objs.size u b=none:=fun b hb=>by rw [ay (zaW hb)];exact I.hok.fresh (zbF hb)
 have flt:∀b∈fp,@LT.lt Nat _ b s.heap.objs.size:=fun b hb=>by obtain⟨o,e⟩:=ho b hb;exact Heap.lt_size e
 refine⟨⟨I.ok.mod,B.kind,I.ok.glob,I.ok.blt,zbL _,fun x y c h1 h2=>?_,fun x hx=>?_,fun x c hx h=>?_,I.ok.hd,I.ok.frames,.inl rfl,fun b hb=>⟨?_,fun x c h=>?_⟩,I.bs,zaz I.ok.bsz I.sz,fun b o e hb=>?_,fun b hb z=>?_,I.stack,I.stkFree⟩,
  rfl,I.bare,?_,⟨fun _=>none,?_,fun i x v e1 e2 e3=>?_⟩,fun x c h=>?_,O _ (zbf _),fun x c h=>?_,fun p hp=>?_,?_,hl⟩
 ·exact Bx _ _ _ (fun a b d ha hb=>I.ok.inj a b d (g a d ha).1 (g b d hb).1) (fun a d ha=>zau (D a d ha) (zbP _ 2)) x y c (zaC h1) (zaC h2)
 ·have hm:∃c,(x,c)∈cellsFrom .dm scope.names .bf:=by
   rcases AO hx with h | h
   ·exact sE _ _ _ x (.inl h)
   ·exact sE _ _ _ x (.inr (rH _ _ x (.inl h)))
  obtain⟨c,hm⟩:=hm
  exact fI hm
 ·have K:scope.names.lookup x=some .cell:=beq_iff_eq.mp hx
  rcases E x c (zaC h) with ⟨_,h2,_⟩ | ⟨h1,_⟩
  ·exact absurd (mem_of_lookupK K) (B.free _ h2 rfl).2.1
  ·exact zaz (zbP _ 2) h1
 ·exact zas (zaK (flt b hb))
 ·rcases E x c (zaC h) with ⟨h1,_,_⟩ | ⟨h1,_⟩
  ·exact (hf b hb).2.2.2.2.1 x c h1
  ·exact zaW (zau (flt b hb) (zaz (zbP _ 2) h1))
 ·rcases (hf b hb).2.2.2.1 with z | z
  ·exact I.ok.noex b o e z
  ·exact absurd (zau .aJ (zaz I.ok.bsz z)) (za4 _)
 ·rcases zao.mp (I.stkSub b z) with z | z
  ·exact (hf b hb).2.1 z
  ·exact (hf b hb).2.2.1 z
 ·exact Un.laid (fun b o e=>iZ e) .bJ A
 ·have q:=Heap.Ns.new (s.heap.push acc) (.type "dict")
  rw [L] at q
  exact q.keeps fun b o e=>pushCells_keeps _ _ b o e
 ·rcases cap i x v e1 e2 with ⟨hx,j,P,Z⟩ | hn
  ·obtain⟨m,hm,J⟩:=I.loc
   have hk:=(B.free _ hx rfl).1
   have vis:N3 X.env.scope x:=by
    rcases hk with hk | hk
    ·exact .a1 (.inl hk)
    ·exact .a1 (.inr hk)
   obtain⟨u,r,l⟩:=J j x v P Z vis
   refine⟨u,r,.inr ?_⟩
   rcases l with ⟨z,_⟩ | ⟨_,c,U,f⟩
   ·rcases hk with hk | hk<;>(rw [show X.env.kindOf x=X.env.scope.names.lookup x from rfl] at hk z;rw [hk] at z;cases z)
   ·obtain⟨C,F⟩:=fI (Classical.choose_spec (sE scope.names .dm .bf x (.inr (rH _ _ x (.inl hx)))))
    have w:C=c:=by
     rcases E x C (zaC F) with ⟨h1,_,_⟩ | ⟨_,h2⟩
     ·rw [U] at h1;exact (zaN h1).symm
     ·exact absurd h2 (B.free _ hx rfl).2.1
    subst w
    refine⟨?_,C,F,f.keeps fun b o e=>iZ e⟩
    rcases e3 with e3 | e3 | e3
    ·rcases hW (env:=X.env) (B.free _ hx rfl).2.2 with q | q
     ·exact .inl q
     ·exact .inr q
    ·exact .inl e3
    ·exact .inr e3
  ·exact absurd e3 hn
 ·rcases xh scope.names ((s.heap.push acc).push lP) .bf x c (by rw [k];exact zaC h) with m | m
  ·obtain⟨v,q⟩:=I.cell x c (g x c m).1
   exact⟨v,q.keeps fun b o e=>iZ e⟩
  ·exact⟨none,m⟩
 ·rcases E x c (zaC h) with ⟨h1,_,M⟩ | ⟨h1,_⟩
  ·rw [up c M];exact I.freeC x c h1
  ·exact O c (zau (Nat.lt_add_of_pos_right .e) h1)
 ·have t:p∈X.pn++pins:=by simpa [lN] using hp
  obtain⟨e,n,ne,N,d⟩:=I.pin p t
  have lt:@LT.lt Nat _ p.1 s.heap.objs.size:=Heap.lt_size e
  refine⟨iZ e,by rw [up _ lt];exact n,zas (zaK lt),fun z=>?_,d⟩
  rcases zao.mp (I.stkSub _ z) with z | z
  ·exact ne z
  ·exact N z
 ·exact I.hok.laid (fun b o e=>iZ e) .bJ new
theorem ED (I:.q)(B:.gm)(hf:∀b∈fp,si X pins H b)(ho:∀b∈fp,∃o,s.heap.get? b=some o)(hl:σ'.length=N'.length)
  (cap:∀(i:Nat) (x:Str) (v:V),N'[i]? = some x->σ'[i]? = some .cY->((x,NameKind.free)∈scope.names/\∃j:Nat,X.N[j]? = some x/\σ[j]? = some .cY)\/¬ N3 (relabel scope X.env) x) {tk:Nat} :
  Inv (lN X scope N' .ar (cellsFrom .dm scope.names .bf) s H fp pins) [] σ' (.J (.lst [])) { s with heap:=h0 s.heap scope,toks:=tk }:=
 sA CY (.lst []) ⟨zaU _,[],0,.nil,Mt s.heap rfl⟩ I B hf ho hl cap
end
noncomputable abbrev yV (l:.av)(env:Env):Sem Bool:=forIn l true fun c r=>if r=true then do let ok <- isTrue c env (eval c env);pure (ForInStep.yield ok) else pure (ForInStep.yield r)
theorem EJ {prog:.ai}{w:World}{A:Around}{R:.e4}{s:Shared}{elt target iter:Expr}{l:.av}{scope:Scope}{pos:Pos}{it acc:Value}{env:Env}(I:Nat->Shared->Prop)
  (turn:∀n s,I n s->wpAny .O A (pyNext it) (fun r g=>match r with
   |none=>R (.ok .next) g
   | some v=>wpAny .O A (letOwnedTupleGo target it v) (fun _ d=>wpAny .O A (assign target env v) (fun _ c=>wpAny .O A (yV l env) (fun ok a =>
     if ok=true then wpAny .O A (eval elt env) (fun x b=>wpAny .O A (call (.builtin "list.append") [acc,x]) (fun _ i=>∃m,m<n/\I m i) .aI b) .aI a
     else ∃m,m<n/\I m a) .aI c) .aI d) .aI g) .aI s)
  (n:Nat) (h:I n s):codeAny .O A (.compLoop (.ListComp elt .hc scope pos) 0 it acc env) R s:=by
 have no:∀{α:Type} {m:Sem α} {Q:α->Shared->Prop} {E:.n} {s:Shared},wpAny .O A m Q .aI s->wpAny .O A m Q E s:=fun h=>wpAny_mono h (fun _ _ q=>q) fun _ _ z=>z.elim
 refine codeAny_loop rfl I (fun n s hI=>?_) n h
 refine (wpAny_noted ?_:wpAny _ A ((compTurn (.ListComp elt .hc scope pos) 0 it acc env).onRaise (fun x=>do noteFrame x env;theTreesLotGoes x)) _ _ s)
 rw [compTurn_list]
 refine .f (wpAny_standAt (.L (.ao (no (turn n s hI)) (fun r g k=>?_))))
 cases r with
 |none=>exact wpAny_pure k
 |some v =>
  refine .f (.ao (no k) (fun _ d f=>.aw (no f) (fun _ c j=>wpAny_bind (wpAny_mono (no j) (fun ok a o=>?_) fun _ _ z=>z))))
  cases ok with
  |false=>exact wpAny_pure ⟨rfl,o⟩
  |true=>exact wpAny_bind (.f (.ao (no o) (fun x b t=>.aw (no t) (fun _ i p=>wpAny_pure (.ah ⟨rfl,p⟩)))))
def bF:az->Bool
 |[]=>true
 |some (.own _)::_=>false
 |_::r=>bF r
theorem ee:∀{τ:az} {i:Nat} {ts:List T},bF τ=true->τ[i]?≠some (.n ts)
 |[],i,ts,_=>.f
 |some (.own _)::_,i,ts,h=>by cases h
 |'0' t::r,0,ts,h=>.f
 |none::r,0,ts,h=>.f
 |'0' t::r,i+1,ts,h=>by rw [List.getElem?_cons_succ];exact ee (τ:=r) h
 |none::r,i+1,ts,h=>by rw [List.getElem?_cons_succ];exact ee (τ:=r) h
noncomputable def dG (fg:FG)(ft:FT)(fe:FE):List T->az->List T->Option (List T)
 |[],_,acc=>some acc
 |t::ts,τ,acc=>(fg t τ).bind fun τ1=>(ft τ1).bind fun p=>if p.1=true then (fe p.2).bind fun q=>if bF q.2=true/\acc.length<sizeLine then dG fg ft fe ts q.2 (acc++[q.1]) else none
  else if bF p.2=true then dG fg ft fe ts p.2 acc else none
def frz1 (j:Nat)(τ:az):az:=match τ[j]? with
 |some (.n ts)=>τ.set j (.o .dH)
 |_=>τ
def frzAll:List Nat->az->az
 |[],τ=>τ
 |j::r,τ=>frzAll r (frz1 j τ)
def zw {α:Type}(l:List (Option α))(j:Nat):Option α:=match l[j]? with
 |some x=>x
 |none=>none
noncomputable def cI {α:Type}(no:Nat)(cap:.D)(l:List (Option α)):List (Option α):=List.replicate no none++cap.map (zw l)
noncomputable def bf (no:Nat)(cap:.D)(g:FA)(fg:FG)(ft:FT)(fe:FE):FE:=fun τ=>(g τ).bind fun p =>
 if bF .bd=true then (dG fg ft fe p.1 .bd []).bind fun us=>some (.lst us,frzAll cap p.2) else none
def aO:FT:=fun τ=>some (true,τ)
noncomputable def Ey (X:Cx)(l:.av)(ft:FT):Prop:=∀Y0 Y9 pins s σ H Q,Inv X pins σ H s->tT X.K Y0 Y9 ft σ H Q->wpAny .o X.A (yV l X.env) (TP X pins σ Q) X.xe s
theorem cM {X:Cx}:Ey X [] aO:=fun Y0 Y9 pins s σ H Q I G=>by
 obtain⟨F,τ,b,τ',E,e,q⟩:=G
 cases e
 exact wpAny_tests_nil ⟨H,I,q F H E .dQ⟩
theorem eD {X:Cx}{c:Expr}{ft:FT}(h:ST X c ft):Ey X [c] ft:=fun Y0 Y9 pins s σ H Q I q=>wpAny_tests_one (h Y0 Y9 pins s σ H Q I q)
section
variable {K:.j}{Y0 Y9 F H:Hp}{σ:L2.St}{τ:az}
theorem aB.frz1 (E:.aw)(j:Nat):∃F',aB K Y0 Y9 F' H σ (TM.frz1 j τ)/\aJ F F':=by
 unfold TM.frz1
 split
 ·next ts e =>
  obtain⟨F',v,_,Z,s',_⟩:=E.freeze e
  exact⟨F',Z,s'⟩
 ·exact⟨F,E,aJ.refl _⟩
theorem aB.frzAll:∀(cap:.D) {F:Hp} {τ:az},aB K Y0 Y9 F H σ τ->∃F',aB K Y0 Y9 F' H σ (TM.frzAll cap τ)/\aJ F F'
 |[],F,τ,E=>⟨F,E,aJ.refl _⟩
 |j::r,F,τ,E=>by
  obtain⟨F1,V,s1⟩:=E.frz1 j
  obtain⟨F2,O,s2⟩:=aB.frzAll r V
  exact⟨F2,O,s1.trans s2⟩
theorem aB.rebase {H':Hp}(E:.aw)(ha:bF τ=true)(s:aJ F H'):aB K F H' F H' σ τ:=by
 refine⟨aZ.refl s,E.len,fun i sl e=>?_,fun i j ts us p _ e1=>absurd e1 (ee ha)⟩
 obtain⟨v,h1,h2⟩:=E.sl i sl e
 cases sl with
 |sh t=>exact⟨v,h1,h2⟩
 |own ts=>exact absurd e (ee ha)
theorem pU {α:Type}{no:Nat}{cap:.D}{l:List (Option α)}{i:Nat}{x:α}(h:(cI no cap l)[i]? = some (.aX x)):∃k j:Nat,i=no+k/\cap[k]? = some j/\l[j]? = some (.aX x):=by
 unfold cI at h
 by_cases hi:i<no
 ·rw [List.getElem?_append_left .dA,List.getElem?_replicate] at h
  split at h<;>cases h
 ·rw [List.getElem?_append_right .dA,List.length_replicate,List.getElem?_map] at h
  cases e:cap[i-no]? with
  |none=>rw [e] at h;cases h
  |some j =>
   rw [e] at h
   have h':zw l j=some x:=zaN h
   unfold zw at h'
   split at h'
   ·next y n=>exact⟨i-no,j,.d,e,by rw [n,h']⟩
   ·cases h'
theorem EC {α:Type}{no:Nat}{cap:.D}{l:List (Option α)}{k j:Nat}{x:α}(h1:cap[k]? = some j)(h2:l[j]? = some (.aX x)):(cI no cap l)[no+k]? = some (.aX x):=by
 unfold cI
 rw [List.getElem?_append_right .f,List.length_replicate,Nat.add_sub_cancel_left,List.getElem?_map,h1]
 show some (zw l j)=_
 unfold zw
 rw [h2]
theorem aB.block {H':Hp}{no:Nat}{cap:.D}(E:.aw)(ha:bF (.bc τ)=true)(s:aJ F H'):aB K F H' F H' (.bc σ) (.bc τ):=by
 refine⟨aZ.refl s,by simp [cI],fun i sl e=>?_,fun i j ts us p _ e1=>absurd e1 (ee ha)⟩
 obtain⟨k,j,rfl,hk,P⟩:=pU e
 obtain⟨v,h1,h2⟩:=E.sl j sl P
 refine⟨v,EC hk h1,?_⟩
 cases sl with
 |sh t=>exact h2
 |own ts=>exact absurd e (ee ha)
end
section
variable {X:Cx}
noncomputable def dU (i no:Nat)(cap:.D)(g:FA)(fg:FG)(ft:FT)(fe:FE):FS:=fun τ=>(g τ).bind fun p =>
 if bF .bd=true then (dG fg ft fe p.1 .bd []).bind fun us=>some (.nx ((frzAll cap p.2).set i (.n us))) else none
end
noncomputable def zv (sc scope:Scope):Bool:=scope.kind == .function&&scope.names.all fun y=>(y.2 != .local||scope.names.lookup y.1 == some .local) &&
 (y.2 != .free||((sc.names.lookup y.1 == some .cell||sc.names.lookup y.1 == some .free)&&scope.names.all (fun z=>!(z.1 == y.1&&z.2 == .cell))&&scope.names.lookup y.1 == some .free))
theorem aK {X:Cx}{scope:Scope}(h:zv X.env.scope scope=true):dP X scope:=by
 unfold zv at h
 simp only [Bool.and_eq_true,List.all_eq_true,Bool.or_eq_true,bne_iff_ne,beq_iff_eq,Bool.not_eq_true',Bool.and_eq_false_iff,ne_eq] at h
 refine⟨h.1,fun y R hk=>?_,fun y R hk=>?_⟩
 ·rcases (h.2 y R).1 with z | z
  ·exact absurd hk z
  ·exact z
 ·rcases (h.2 y R).2 with z | ⟨⟨U,D⟩,k⟩
  ·exact absurd hk z
  ·refine⟨U,fun m=>?_,k⟩
   rcases D _ m with w | w
   ·simp at w
   ·simp at w
noncomputable def sD (N N':.U)(scope:Scope)(no:Nat):List Nat->Bool
 |[]=>true
 |j::r=>(match N'[no]?,N[j]? with | some x,some y=>x == y&&scope.names.any (fun z=>z.1 == x&&z.2 == .free) | _,_=>false)&&sD N N' scope (no+1) r
theorem bO {N N':.U}{scope:Scope}:∀{no:Nat} {cap:.D},sD N N' scope no cap=true->∀(k j:Nat),cap[k]? = some j->∃x,N'[no+k]? = some x/\N[j]? = some x/\(x,NameKind.free)∈scope.names
 |no,[],_,k,j,e=>by simp at e
 |no,c::r,h,k,j,e=>by
  simp only [sD,Bool.and_eq_true] at h
  cases k with
  |zero =>
   simp at e
   subst e
   have h1:=h.1
   split at h1
   ·next x y ex n =>
    simp only [Bool.and_eq_true,beq_iff_eq,List.any_eq_true] at h1
    obtain⟨rfl,z,hz,U,D⟩:=h1
    refine⟨x,ex,n,?_⟩
    obtain⟨a,b⟩:=z
    dsimp only at U D
    subst U D
    exact hz
   ·cases h1
  |succ k =>
   obtain⟨x,h1,h2,M⟩:=bO h.2 k j .fK
   exact⟨x,by rw [show no+(k+1)=no+1+k by omega];exact h1,h2,M⟩
inductive O where
 |val (t:T) | lst (os:List O)
mutual
def fF (K:.j)(F H:Hp):O->V->List Addr->Prop
 | .val t,v,A=>A=[]/\Rep K F t v
 | .lst os,v,A=>∃p vs B,v=.ref p/\A=p::B/\H p=some .bn/\F p=none/\cq K F H os vs B
def cq (K:.j)(F H:Hp):List O->List V->List Addr->Prop
 |[],vs,A=>vs=[]/\A=[]
 |o::os,vs,A=>∃v r B C,vs=v::r/\A=B++C/\fF K F H o v B/\cq K F H os r C
end
mutual
def O.tr:O->T
 | .val t=>t
 | .lst os=>.lst (O.trs os)
def O.trs:List O->List T
 |[]=>[]
 |o::os=>o.tr::O.trs os
end
section
variable {K:.j}{F H F' H':Hp}
mutual
theorem fF.move (sF:aJ F F'):∀{o:O} {v:V} {A:.V},(∀a∈A,H' a=H a/\F' a=none)->fF K F H o v A->fF K F' H' o v A
 | .val t,v,A,_,h=>⟨h.1,Rep.mono sF h.2⟩
 | .lst os,v,A,hA,h=>by
  obtain⟨p,vs,B,rfl,rfl,h1,h2,M⟩:=h
  have hp:=hA p zae
  exact⟨p,vs,B,rfl,rfl,hp.1.trans h1,hp.2,cq.move sF (.br (zad _ ha)) M⟩
theorem cq.move (sF:aJ F F'):∀{os:List O} {vs:List V} {A:.V},(∀a∈A,H' a=H a/\F' a=none)->cq K F H os vs A->cq K F' H' os vs A
 |[],vs,A,_,h=>h
 |o::os,vs,A,hA,h=>by
  obtain⟨v,r,B,C,rfl,rfl,h1,h2⟩:=h
  exact⟨v,r,B,C,rfl,rfl,fF.move sF (.br (zbd _ ha)) h1,cq.move sF (.br (zat _ ha)) h2⟩
end
mutual
theorem fF.at:∀{o:O} {v:V} {A:.V},fF K F H o v A->∀a∈A,F a=none/\∃vs,H a=some .bn
 | .val t,v,A,h,a,ha=>by rw [h.1] at ha;cases ha
 | .lst os,v,A,h,a,ha=>by
  obtain⟨p,vs,B,rfl,rfl,h1,h2,M⟩:=h
  rcases zao.mp ha with rfl | ha
  ·exact⟨h2,vs,h1⟩
  ·exact cq.at M a ha
theorem cq.at:∀{os:List O} {vs:List V} {A:.V},cq K F H os vs A->∀a∈A,F a=none/\∃vs,H a=some .bn
 |[],vs,A,h,a,ha=>by rw [h.2] at ha;cases ha
 |o::os,vs,A,h,a,ha=>by
  obtain⟨v,r,B,C,rfl,rfl,h1,h2⟩:=h
  rcases zaA.mp ha with ha | ha
  ·exact fF.at h1 a ha
  ·exact cq.at h2 a ha
end
mutual
theorem fF.rep (sF:aJ F F'):∀{o:O} {v:V} {A:.V},(∀a∈A,F' a=H a)->fF K F H o v A->Rep K F' o.tr v
 | .val t,v,A,_,h=>Rep.mono sF h.2
 | .lst os,v,A,hA,h=>by
  obtain⟨p,vs,B,rfl,rfl,h1,h2,M⟩:=h
  exact⟨p,vs,rfl,(hA p zae).trans h1,cq.rep sF (.br (zad _ ha)) M⟩
theorem cq.rep (sF:aJ F F'):∀{os:List O} {vs:List V} {A:.V},(∀a∈A,F' a=H a)->cq K F H os vs A->aM K F' (O.trs os) vs
 |[],vs,A,_,h=>h.1
 |o::os,vs,A,hA,h=>by
  obtain⟨v,r,B,C,rfl,rfl,h1,h2⟩:=h
  exact⟨v,r,rfl,fF.rep sF (.br (zbd _ ha)) h1,cq.rep sF (.br (zat _ ha)) h2⟩
end
theorem cq.app:∀{os us:List O} {vs ws:List V} {A B:.V},cq K F H os vs A->cq K F H us ws B->cq K F H (os++us) (vs++ws) (A++B)
 |[],_,_,_,_,_,h,h'=>by obtain⟨rfl,rfl⟩:=h;exact h'
 |o::os,_,_,_,_,_,h,h'=>by
  obtain⟨v,r,B,C,rfl,rfl,h1,h2⟩:=h
  exact⟨v,r++_,B,C++_,rfl,by rw [za5],h1,cq.app h2 h'⟩
theorem cq.one {o:O}{v:V}{A:.V}(h:fF K F H o v A):cq K F H [o] [v] A:=⟨v,[],A,[],rfl,.f,h,rfl,rfl⟩
theorem cq.length:∀{os:List O} {vs:List V} {A:.V},cq K F H os vs A->vs.length=os.length
 |[],_,_,h=>by rw [h.1];rfl
 |o::os,_,_,h=>by
  obtain⟨v,r,B,C,rfl,rfl,h1,h2⟩:=h
  simp [cq.length h2]
def frzO (F H:Hp)(A:.V):Hp:=fun a=>if a∈A then H a else F a
theorem fA {A:.V}{a:Addr}(h:a∈A):frzO F H A a=H a:=.jo
theorem cH {A:.V}{a:Addr}(h:a∉A):frzO F H A a=F a:=if_neg h
theorem eg {A:.V}(h:∀a∈A,F a=none):aJ F .d9:=fun a o e=>by
 rw [cH (fun m=>by rw [h a m] at e;cases e)];exact e
theorem fF.frz {o:O}{v:V}{A:.V}(h:fF K F H o v A):Rep K .d9 o.tr v:=fF.rep (eg fun a ha=>(h.at a ha).1) (fun a ha=>fA ha) h
theorem aZ.frzO {Y0 Y9:Hp}{A:.V}(g:aZ Y0 Y9 F H)(h:∀a∈A,F a=none)(h0:∀a∈A,Y9 a=none):aZ Y0 Y9 .d9 H:=by
 refine⟨g.sF.trans (eg h),g.sH,fun a o e=>?_,fun a o e=>?_⟩
 ·by_cases m:a∈A
  ·rw [fA m] at e;exact e
  ·rw [cH m] at e;exact g.fh _ _ e
 ·by_cases m:a∈A
  ·exact .a1 (h0 a m)
  ·rw [cH m] at e;exact g.nw _ _ e
end
section
variable {K:.j}{Y0 Y9 F H F' H':Hp}{σ:L2.St}{τ:az}{A:.V}
noncomputable def Apart (σ:L2.St)(τ:az)(A:.V):Prop:=∀(j:Nat) us p,τ[j]? = some (.n us)->σ[j]? = some (.R p)->p∉A
theorem aB.frzO (E:.aw)(h:∀a∈A,F a=none)(h0:∀a∈A,Y9 a=none)(ow:Apart σ τ A):aB K Y0 Y9 (TM.frzO F H A) H σ τ:=by
 refine⟨E.g.frzO h h0,E.len,fun i s e=>?_,E.dj⟩
 obtain⟨v,h1,h2⟩:=E.sl i s e
 refine⟨v,h1,?_⟩
 cases s with
 |sh t=>exact Rep.mono (eg h) h2
 |own ts =>
  obtain⟨p,vs,rfl,k2,k3,N,k5⟩:=h2
  exact⟨p,vs,rfl,k2,by rw [cH (ow i ts p e h1)];exact k3,N,aM.mono (eg h) k5⟩
theorem aB.hp (E:.aw)(s:aJ H H'):aB K Y0 Y9 F H' σ τ:=by
 refine⟨⟨E.g.sF,E.g.sH.trans s,E.g.fh.trans s,E.g.nw⟩,E.len,fun i sl e=>?_,E.dj⟩
 obtain⟨v,h1,h2⟩:=E.sl i sl e
 refine⟨v,h1,?_⟩
 cases sl with
 |sh t=>exact h2
 |own ts =>
  obtain⟨p,vs,rfl,k2,k3,N,k5⟩:=h2
  exact⟨p,vs,rfl,s _ _ k2,k3,N,k5⟩
end
abbrev pQ:=az->Option (O×az)
noncomputable def Uq (K:.j)(Y0 Y9:Hp)(f:pQ):TE:=fun σ H Q=>∃F τ o τ',aB K Y0 Y9 F H σ τ/\f τ=some (o,τ') /\
 ∀F' H' v A,aB K Y0 Y9 F' H' σ τ'->aJ F F'->fF K F' H' o v A->A.Nodup->(∀a∈A,Y9 a=none)->Apart σ τ' A->Q v H'
def Bp (X:Cx)(e:Expr)(f:pQ):Prop:=∀Y0 Y9,PE X e (Uq X.K Y0 Y9 f)
section
variable {X:Cx}{e:Expr}{pos:Pos}
def Tw (f:pQ):FE:=fun τ=>(f τ).bind fun p=>some (p.1.tr,p.2)
theorem Bp.se {f:pQ}(h:Bp X e f):SE X e (Tw f):=fun Y0 Y9=>PE.weak .cT fun σ H Q G=>by
 obtain⟨F,τ,t,τ',E,e1,q⟩:=G
 obtain⟨⟨o,τ1⟩,e2,e1⟩:=bind_some e1
 cases e1
 refine⟨F,τ,o,τ1,E,e2,fun F' H' v A Z s' r nd h0 ow=>?_⟩
 have N:∀a∈A,F' a=none:=fun a ha=>(r.at a ha).1
 exact q _ H' v (Z.frzO N h0 ow) (s'.trans (eg N)) r.frz
def uT (f:FE):pQ:=fun τ=>(f τ).bind fun p=>some (.val p.1,p.2)
theorem SE.seo {f:FE}(h:.fx):Bp X e (uT f):=fun Y0 Y9=>PE.weak .cT fun σ H Q G=>by
 obtain⟨F,τ,t,τ',E,e1,q⟩:=G
 obtain⟨⟨o,τ1⟩,e2,e1⟩:=bind_some e1
 cases e1
 exact⟨F,τ,o,τ1,E,e2,fun F' H' v Z s' r=>q F' H' v [] Z s' ⟨rfl,r⟩ zbl (fun a ha=>by cases ha) (fun j us p _ _ m=>by cases m)⟩
theorem cq.vals {K:.j}{F H:Hp}:∀{ts:List T} {vs:List V},aM K F ts vs->cq K F H (ts.map O.val) vs []
 |[],_,h=>⟨h,rfl⟩
 |t::ts,_,h=>by
  obtain⟨v,r,rfl,h2,M⟩:=h
  exact⟨v,r,[],[],rfl,rfl,⟨rfl,h2⟩,cq.vals M⟩
end
noncomputable def gQ (fg:FG)(ft:FT)(fe:pQ):List T->az->List O->Option (List O)
 |[],_,acc=>some acc
 |t::ts,τ,acc=>(fg t τ).bind fun τ1=>(ft τ1).bind fun p=>if p.1=true then (fe p.2).bind fun q=>if bF q.2=true/\acc.length<sizeLine then gQ fg ft fe ts q.2 (acc++[q.1]) else none
  else if bF p.2=true then gQ fg ft fe ts p.2 acc else none
section
variable {X:Cx}
structure rZ (X:Cx)(pins:.s)(σ:L2.St)(Y0 Y9 F:Hp)(τ:az)(rs:List O)(D C:Addr)(s:Shared):Prop where
 ex:∃(H F3:Hp) (vs:List V) (As:.V),Inv X pins σ H s/\aB X.K Y0 Y9 F3 H σ τ/\aJ F F3/\F3 D=none/\H D=some .bn/\Y9 D=none/\cq X.K F3 H rs vs As/\As.Nodup/\(∀a∈As,Y9 a=none/\a≠D)/\Apart σ τ As/\H C=none
 ns:∃m,s.heap.Ns C m
 cl:C≠X.env.locals
 c0:X.Y8.heap.objs.size≤C
 cc:∀x c,X.env.cells.lookup x=some c->c≠C
 cp:∀p∈X.pn++pins,p.1≠C
 ow:∀(j:Nat) us p,τ[j]? = some (.n us)->σ[j]? = some (.R p)->p≠D
theorem sJ {elt tg iter:Expr}{l:.av}{scope:Scope}{pos:Pos}{N':.U}{no:Nat}{cap:.D}{q:FA}{fg:FG}{ft:FT}{fe:pQ}(hx:X.xe=fun _ _=>False)(U:.bp)(B:.gm)(Q:.b6)
  (hcap:∀(k j:Nat),cap[k]? = some j->∃x,N'[no+k]? = some x/\X.N[j]? = some x/\(x,NameKind.free)∈scope.names) (hi:SI X tg iter q)
  (L:∀C cs Y8 Y9 fp pins,SG .v tg fg) (Y:∀C cs Y8 Y9 fp pins,Ey .v l ft) (he:∀C cs Y8 Y9 fp pins,Bp .v elt fe)
  {Y0 Y9 F H:Hp} {pins:.s} {s:Shared} {σ:L2.St} {τ τ1:az} {ts:List T} {rs:List O} (I:.q) (E:aB X.K Y0 Y9 F H σ τ) (e2:q τ=some (ts,τ1)) (ha:bF (.bc .dO)=true) (e3:gQ fg ft fe ts (.bc .dO) []=some rs)
  {post:Value->Addr->Result->Shared->Prop} (hpost:∀D C s',rZ X pins σ Y0 Y9 F .dO rs D C s'->post (.d D) C (.ok .next) s'):
  wpAny .o X.A (.V iter) (fun x g=>wpAny .o X.A (pyIter x) (fun it s₂=>wpAny .o X.A (newList []) (fun acc s₃ =>
   wpAny .o X.A (newFunctionEnv scope X.env.globals .bf [] X.env.qual none .none (some X.env)) (fun cenv s₄ =>
    codeAny .o X.A (.compStart .R 0 it acc { cenv with scope:=relabel scope X.env }) (post acc cenv.locals) s₄) X.xe s₃) X.xe s₂) X.xe g) X.xe s:=by
 refine cF (hi Y0 Y9 pins s σ H (fun J H1=>∃F1,aB X.K Y0 Y9 F1 H1 σ τ1/\aJ F F1/\Walks X.K F1 ts J) I ⟨F,τ,ts,τ1,E,e2,fun F1 H1 J V s1 W=>⟨F1,V,s1,W⟩⟩) fun v s1 h1=>cF h1 fun itv s2 h2=>?_
 obtain⟨it,fp,tn,J,H1,rfl,M,Tn,st2,f2,F1,V,sF1,W⟩:=h2
 obtain⟨F2,h,sF2⟩:=V.frzAll cap
 have W2:Walks X.K F2 ts J:=⟨fun i t F3 H3 e a b=>W.go i t F3 H3 e .i7 b,fun i t F3 H3 x H4 e a b y=>W.yld i t F3 H3 x H4 e .i7 b y,fun F3 H3 a b=>W.stop F3 H3 .i7 b⟩
 refine wpAny_newObj_type ?_
 have hz:(s2.heap.push CY).objs.size=s2.heap.objs.size+1:=Heap.size_push ..
 have hz2:((s2.heap.push CY).push lP).objs.size=s2.heap.objs.size+2:=by rw [Heap.size_push,hz]
 simp only [newFunctionEnv,Option.isSome_some,if_true]
 refine .f (wpAny_alloc ?_)
 refine wpAny_bind (wpAny_layCells _ (fun name kind cells=>by cases hkc:kind == NameKind.cell<;>simp [hkc]) _ _ _ _ ?_)
 simp only [List.forIn_nil]
 refine .f (.ah .b7)
 have loop:codeAny .o X.A (.compLoop .R 0 .hD .bt (ji X scope .b1 .aj))
   (post .bt .b1) { s2 with heap:=h0 s2.heap scope }:=by
  have Ib:=ED (N':=N') (σ':=cI no cap σ) (tk:=s2.toks) M B f2 (fun b hb=>by obtain⟨o,e,_⟩:=Tn.obj 0 _ st2 b hb;exact⟨o,e⟩) (by simp [cI,Q]) (fun i x v a1 a2=>by
   obtain⟨k,j,rfl,hk,P⟩:=pU a2
   obtain⟨x',b1,b2,b3⟩:=hcap k j hk
   rw [a1] at b1;cases b1
   exact .inl ⟨b3,j,b2,P⟩)
  generalize Z:lN X scope N' .b1 .aj s2 H1 fp pins=X' at Ib
  have hg':SG X' tg fg:=by rw [<- Z];exact L _ _ _ _ _ _
  have ht':Ey X' l ft:=by rw [<- Z];exact Y _ _ _ _ _ _
  have he':Bp X' elt fe:=by rw [<- Z];exact he _ _ _ _ _ _
  have xP:X'.prog=X.prog:=by rw [<- Z];rfl
  have xw:X'.w=X.w:=by rw [<- Z];rfl
  have xK:X'.K=X.K:=by rw [<- Z];rfl
  have xA:X'.A=X.A:=by rw [<- Z];rfl
  have xc:X'.calm=true:=by rw [<- Z];exact U
  have xx:X'.xe=fun _ _=>False:=by rw [<- Z];rfl
  have xe':X'.env=ji X scope .b1 .aj:=by rw [<- Z];rfl
  have xex:X'.ex=fp:=by rw [<- Z];rfl
  have xfs:X'.fs=wm X.stack:=by rw [<- Z];rfl
  have xpn:X'.pn=X.pn++pins:=by rw [<- Z];rfl
  have xs0:X'.Y8=s2:=by rw [<- Z];rfl
  have xH0:X'.Y9=H1:=by rw [<- Z];rfl
  have xl:X'.env.locals=s2.heap.objs.size+1:=by rw [<- Z];rfl
  rw [<- xe',<- xP,<- xw,<- xA]
  have hD1:H1 s2.heap.objs.size=none:=M.fresh
  have fpk:∀{Hc:Hp} {σc:L2.St} {pc:.s} {sc:Shared},Inv X' pc σc Hc sc->(∀b∈fp,Hc b=none)->∀b∈fp,si X' [] Hc b:=fun {Hc σc pc sc} Ic hn b hb=>by
   have q1:=Ic.ok.exf b .ep
   have q2:=Ic.ok.exfs b .ep
   refine⟨hn b hb,q1.1,q2,.inl .ep,q1.2,fun p hp=>?_⟩
   rw [xpn,zaw] at hp
   exact (f2 b hb).2.2.2.2.2 p hp
  refine EJ (fun n s3=>∃i σ3 H3 F3 τ3 us vs As,Inv X' [] σ3 H3 s3/\tn i s3.heap/\(∀b∈fp,H3 b=none)/\aB X.K F3 H3 F3 H3 σ3 τ3/\bF τ3=true/\F3 s2.heap.objs.size=none/\H3 s2.heap.objs.size=some .bn/\(cq X.K F3 H3 us vs As/\As.Nodup/\∀a∈As,H1 a=none/\a≠s2.heap.objs.size)/\aJ F2 F3/\aJ H1 H3 /\
   (∀a o,F3 a=some o->F2 a=some o\/H1 a=none)/\i≤ts.length/\n=ts.length-i/\gQ fg ft fe (ts.drop i) τ3 us=some rs) ?_ ts.length ?_
  ·rintro n s3 ⟨i,σ3,H3,F3,τ3,us,vs,As,I3,st3,fr3,E3,ha3,fD,hD,⟨f,nd,fr⟩,sF,sH,nw,hi',rfl,ec⟩
   by_cases G:i<ts.length
   ·have hgi:.gY:=zav G
    rw [zaY G] at ec
    obtain⟨τ4,e4,ec⟩:=bind_some ec
    obtain⟨⟨b,τ5⟩,e5,ec⟩:=bind_some ec
    have go:=W2.go i _ F3 H3 hgi sF E3.g.fh
    have itm:=(xP ▸ xw ▸ xK ▸ Tn:Turn X'.prog X'.w X'.K tg J fp it tn).item X' rfl rfl rfl xc i [] s3 σ3 H3 .aI I3 (fpk I3 fr3) st3 go
    refine cF itm fun r s4 ⟨u,hr,K⟩=>?_
    subst hr
    refine cF K fun _ s5 ⟨x,H5,I5,r5,y5,st5,fr5⟩=>?_
    have I5':=I5.pinned (fpk I5 fr5) (Tn.obj _ _ st5)
    obtain⟨F5,A,N⟩:=W2.yld i _ F3 H3 x H5 hgi sF E3.g.fh y5
    have a1:=hg' F3 H3 _ s5 σ3 H5 x u (fun σ6 H6=>∃F6,aB X.K F3 H3 F6 H6 σ6 τ4/\aJ F5 F6) I5' r5 (by rw [xK];exact⟨F5,τ3,ts[i],τ4,E3.grow A,N,e4,fun F6 H6 σ6 E6 s6=>⟨F6,E6,s6⟩⟩)
    rw [xx] at a1
    refine cF a1 fun _ s6 ⟨σ6,H6,I6,F6,E6,sF6⟩=>?_
    have a2:=ht' F3 H3 _ s6 σ6 H6 (fun b' H7=>b'=b/\∃F7,aB X.K F3 H3 F7 H7 σ6 τ5/\aJ F6 F7) I6 (by rw [xK];exact⟨F6,τ4,b,τ5,E6,e5,fun F7 H7 E7 s7=>⟨rfl,F7,E7,s7⟩⟩)
    rw [xx] at a2
    refine cF a2 fun ok s7 ⟨H7,I7,hok,F7,E7,sF7⟩=>?_
    subst hok
    have tail:∀{σc:L2.St} {Hc:Hp} {sc:Shared},Inv X' ([]++qj fp s5.heap) σc Hc sc->tn (i+1) sc.heap/\∀b∈fp,Hc b=none:=fun {σc Hc sc} Ic=>by
     refine⟨Tn.keep _ _ _ st5 fun b hb o e=>(Ic.pin (b,o) .dE).1,fun b hb=>?_⟩
     obtain⟨o,e,d⟩:=Tn.obj _ _ st5 b hb
     exact (Ic.pin (b,o) .dE).2.1
    have keepD:∀{Fc Hc:Hp} {σc:L2.St} {τc:az},aB X.K F3 H3 Fc Hc σc τc->Fc s2.heap.objs.size=none:=fun {Fc Hc σc τc} Ec=>by
     cases eF:Fc s2.heap.objs.size with
     |none=>rfl
     |some o =>
      rcases Ec.g.nw _ o eF with z | z
      ·rw [fD] at z;cases z
      ·rw [hD] at z;cases z
    have newF:∀{Fc Hc:Hp} {σc:L2.St} {τc:az},aB X.K F3 H3 Fc Hc σc τc->∀a o,Fc a=some o->F2 a=some o\/H1 a=none:=fun {Fc Hc σc τc} Ec a o eF=>by
     rcases Ec.g.nw a o eF with z | z
     ·exact nw a o z
     ·exact .a1 (sH.free z)
    have mv:∀{Fc Hc Hd:Hp} {σc:L2.St} {τc:az},aB X.K F3 H3 Fc Hc σc τc->(∀a,a≠s2.heap.objs.size->Hd a=Hc a)->cq X.K Fc Hd us vs As:=fun {Fc Hc Hd σc τc} Ec hd=>by
     refine cq.move Ec.g.sF (fun a ha=>?_) f
     obtain⟨f1,ws,f2⟩:=f.at a ha
     refine⟨by rw [hd a (fr a ha).2,Ec.g.sH _ _ f2,f2],?_⟩
     cases eF:Fc a with
     |none=>rfl
     |some o =>
      rcases Ec.g.nw _ o eF with z | z
      ·rw [f1] at z;cases z
      ·rw [f2] at z;cases z
    cases b':ok with
    |false =>
     subst b'
     dsimp only at ec
     rw [if_neg .e] at ec
     split at ec
     ·next ha =>
      rw [if_neg .e]
      obtain⟨t1,t2⟩:=tail I7
      exact⟨ts.length-(i+1),.d,i+1,σ6,H7,F7,τ5,us,vs,As,I7.unpinned,t1,t2,E7.rebase ha E7.g.fh,ha,keepD E7,E7.g.sH _ _ hD,⟨mv E7 .L,nd,fr⟩,sF.trans E7.g.sF,sH.trans E7.g.sH,newF E7,G,rfl,ec⟩
     ·cases ec
    |true =>
     subst b'
     dsimp only at ec
     rw [if_pos rfl] at ec
     rw [if_pos rfl]
     obtain⟨⟨y0,τ6⟩,e6,ec⟩:=bind_some ec
     dsimp only at ec
     split at ec
     ·next ha =>
      have a3:=he' F3 H3 _ s7 σ6 H7 (fun y H8=>∃F8 Ay,aB X.K F3 H3 F8 H8 σ6 τ6/\fF X.K F8 H8 y0 y Ay/\Ay.Nodup/\∀a∈Ay,H3 a=none) I7 (by rw [xK];exact⟨F7,τ5,y0,τ6,E7,e6,fun F8 H8 y Ay E8 s8 r8 n8 h8 _=>⟨F8,Ay,E8,r8,n8,h8⟩⟩)
      rw [xx] at a3
      refine cF a3 fun yv s8 ⟨y,H8,I8,S,F8,Ay,E8,rp,ndy,hy8⟩=>?_
      have dD:H8 s2.heap.objs.size=some .bn:=E8.g.sH _ _ hD
      have a4:=wA (X:=X') _ s8 σ6 H8 .bt [y] .bt [yv] (fun _ H9=>H9=upd H8 s2.heap.objs.size (.lst (vs++[y]))) I8 rfl (.aD S) ⟨s2.heap.objs.size,vs,y,rfl,rfl,dD,by rw [f.length];exact ha.2,rfl⟩
      rw [xx] at a4
      refine cF a4 fun _ s9 ⟨_,H9,I9,_,e9⟩=>?_
      subst e9
      obtain⟨t1,t2⟩:=tail I9
      have kD:=keepD E8
      have R:aJ F8 .de:=fun c o z=>by rw [ay (fun w=>by subst w;rw [kD] at z;cases z)];exact E8.g.fh _ _ z
      have sm1:aJ H1 .de:=fun c o z=>by rw [ay (fun w=>by subst w;rw [hD1] at z;cases z)];exact E8.g.sH _ _ (sH _ _ z)
      have yD:∀a∈Ay,a≠s2.heap.objs.size:=fun a ha z=>by have:=hy8 a ha;rw [z,hD] at this;cases this
      have rp9:fF X.K F8 .de y0 y Ay:=fF.move .dQ (fun a ha=>⟨ay (yD a ha),(rp.at a ha).1⟩) rp
      have all9:cq X.K F8 .de (us++[y0]) (vs++[y]) (As++Ay):=(mv E8 (fun a ha=>ay ha)).app (.one rp9)
      have nd9:(As++Ay).Nodup:=zaS.mpr ⟨nd,ndy,fun a ha b hb z=>by subst z;obtain⟨_,ws,f2⟩:=f.at a ha;rw [hy8 a hb] at f2;cases f2⟩
      have fr9:∀a∈As++Ay,H1 a=none/\a≠s2.heap.objs.size:=fun a ha=>by
       rcases zaA.mp ha with ha | ha
       ·exact fr a ha
       ·exact⟨sH.free (hy8 a ha),yD a ha⟩
      exact⟨ts.length-(i+1),.d,i+1,σ6,_,F8,τ6,us++[y0],vs++[y],As++Ay,I9.unpinned,t1,t2,E8.rebase ha.1 R,ha.1,kD,aF,⟨all9,nd9,fr9⟩,sF.trans E8.g.sF,sm1,newF E8,G,rfl,ec⟩
     ·cases ec
   ·have hie:i=ts.length:=.d
    subst hie
    rw [zbh] at ec
    cases ec
    have dn:=(xP ▸ xw ▸ xK ▸ Tn:Turn X'.prog X'.w X'.K tg J fp it tn).done X' rfl rfl rfl xc ts.length [] s3 σ3 H3 .aI I3 (fpk I3 fr3) st3 (W2.stop F3 H3 sF E3.g.fh)
    refine cF dn fun r s4 ⟨hr,I4⟩=>?_
    subst hr
    obtain⟨m4,hm4,_⟩:=I4.loc
    rw [xl] at hm4
    have un:=I4.base
    rw [xfs,xex,xH0,xs0] at un
    have ox:=I4.os
    rw [xs0] at ox
    have hok4:=I4.hok
    rw [xP,xw] at hok4
    have IX:Inv X pins σ H3 s4:=M.call' ox un hok4 I4.bare fun b hb=>⟨(f2 b hb).2.2.2.1,(f2 b hb).2.1,(f2 b hb).2.2.2.2.1,(f2 b hb).2.2.2.2.2⟩
    have hC:H3 .b1=none:=by have:=I4.free;rw [xl] at this;exact this
    have lC:@LT.lt Nat _ X.env.locals s2.heap.objs.size:=M.lt
    have A:aZ F2 H1 F3 H3:=⟨sF,sH,E3.g.fh,nw⟩
    have ap3:Apart σ .dO As:=fun j us p j1 j2 m=>by
     obtain⟨v,k1,p',vs',rfl,k2,_⟩:=h.sl j _ j1
     rw [j2] at k1;cases k1
     rw [(fr _ m).1] at k2;cases k2
    refine hpost _ _ _ ⟨⟨H3,F3,vs,As,IX,h.grow A,(sF1.trans sF2).trans sF,fD,hD,h.g.sH.free hD1,f,nd,fun a ha=>⟨h.g.sH.free (fr a ha).1,(fr a ha).2⟩,ap3,hC⟩,⟨m4,hm4⟩,zaW (zaK lC),zaz M.sz (zbL _),
     fun x c hxc=>by obtain⟨v,z⟩:=M.cell x c hxc;exact zas (zaK z.lt),fun p hp=>zas (zaK (Heap.lt_size (M.pin p hp).1)),fun j us p j1 j2=>?_⟩
    obtain⟨v,k1,p',vs',rfl,k2,_⟩:=h.sl j _ j1
    rw [j2] at k1;cases k1
    exact bg k2 hD1
  ·refine⟨0,cI no cap σ,upd H1 s2.heap.objs.size (.lst []),F2,cI no cap .dO,[],[],[],Ib,Tn.keep _ _ _ st2 fun b hb o e=>Dw e,fun b hb=>?_,h.block ha (h.g.fh.trans (cX hD1)),ha,h.g.fh.free hD1,aF,⟨⟨rfl,rfl⟩,zbl,fun a ha=>by cases ha⟩,aJ.refl _,cX hD1,fun a o z=>.inl z,zaU _,rfl,e3⟩
   obtain⟨o,e,_⟩:=Tn.obj 0 _ st2 b hb
   rw [ay (zas .aJ)]
   exact (f2 b hb).1
 have fin:∀{C:Addr} {cs:.cD},C=s2.heap.objs.size+1->cs=cellsFrom (s2.heap.objs.size+2) scope.names .bf ->
   codeAny .o X.A (.compStart .R 0 .hD .bt (ji X scope C cs)) (post .bt C) { s2 with heap:=h0 s2.heap scope }:=fun {C cs} h1 h2=>by
  subst h1 h2
  exact codeAny_compStart_list loop (Tn.self _ 0 _ _ _ (Tn.keep _ _ _ st2 fun b hb o e=>Dw e) loop)
 exact fin hz (by rw [<- hz2])
noncomputable def nR (no:Nat)(cap:.D)(g:FA)(fg:FG)(ft:FT)(fe:pQ):pQ:=fun τ=>(g τ).bind fun p =>
 if bF .bd=true then (gQ fg ft fe p.1 .bd []).bind fun us=>some (.lst us,frzAll cap p.2) else none
theorem rZ.fin {pins:.s}{σ:L2.St}{Y0 Y9 F:Hp}{τ:az}{rs:List O}{D C:Addr}{s:Shared}(Z:rZ X pins σ Y0 Y9 F τ rs D C s):
  ∃(H F3:Hp) (As:.V),Inv X pins σ H s/\aB X.K Y0 Y9 F3 H σ τ/\aJ F F3/\fF X.K F3 H (.lst rs) (.d D) As/\As.Nodup/\(∀a∈As,Y9 a=none)/\Apart σ τ As/\H C=none:=by
 obtain⟨H,F3,vs,As,d,T,sF,h,A,i,f,nd,h0,ap,P⟩:=Z.ex
 refine⟨H,F3,D::As,d,T,sF,⟨D,vs,As,rfl,rfl,A,h,f⟩,zaB.mpr ⟨fun m=>(h0 D m).2 rfl,nd⟩,fun a ha=>?_,fun j us p e1 e2 m=>?_,P⟩
 ·rcases zao.mp ha with rfl | ha
  ·exact i
  ·exact (h0 a ha).1
 ·rcases zao.mp m with rfl | m
  ·exact Z.ow j us _ e1 e2 rfl
  ·exact ap j us p e1 e2 m
theorem A6 {elt tg iter:Expr}{l:.av}{scope:Scope}{pos:Pos}{N':.U}{no:Nat}{cap:.D}{g:FA}{fg:FG}{ft:FT}{fe:pQ}(hx:X.xe=fun _ _=>False)(U:.bp)(B:.gm)(J:.b6)
  (K:∀(k j:Nat),cap[k]? = some j->∃x,N'[no+k]? = some x/\X.N[j]? = some x/\(x,NameKind.free)∈scope.names) (hi:.ei)
  (L:∀C cs Y8 Y9 fp pins,SG .v tg fg) (Y:∀C cs Y8 Y9 fp pins,Ey .v l ft) (he:∀C cs Y8 Y9 fp pins,Bp .v elt fe)
  (hs:∀x,foldedSetIterable iter X.env x=pure x:=by intro _;rfl):Bp X .R (nR no cap g fg ft fe):=by
 intro Y0 Y9 pins s σ H Q I ⟨F,τ,t,τ',E,e1,q⟩
 obtain⟨⟨ts,τ1⟩,e2,e1⟩:=bind_some e1
 dsimp only at e1
 split at e1
 ·next ha =>
  obtain⟨rs,e3,e1⟩:=bind_some e1
  cases e1
  have G:∀y∈scope.names,y.2=.free->∃c,X.env.cells.lookup y.1=some c:=.ca
  rw [eval_ListComp]
  refine wpAny_comprehension_free (use:=none) rfl hs (jT G) B.kind B.names (sJ hx U B J K hi L Y he I E e2 ha e3 fun D C s' Z=>?_)
  obtain⟨H3,F3,As,d,T,sF,ro,nd,h0,ap,P⟩:=Z.fin
  obtain⟨m,hm⟩:=Z.ns
  refine⟨m,hm,fun h' N=>⟨.ref D,H3,d.turned (t':=s'.toks) (it:=C) .et P Z.cl (.inr Z.c0) Z.cc Z.cp,rfl,?_⟩⟩
  exact q F3 H3 (.d D) As T sF ro nd h0 ap
 ·cases e1
noncomputable def QB (K:.j)(Y0 Y9:Hp)(i:Nat)(f:pQ):TS:=fun D σ H=>∃F τ o τ',aB K Y0 Y9 F H σ τ/\f τ=some (o,τ') /\
 ∀F' H' v A,aB K Y0 Y9 F' H' σ τ'->aJ F F'->fF K F' H' o v A->A.Nodup->(∀a∈A,Y9 a=none)->Apart σ τ' A->D.nx (σ.set i .cY) H'
theorem qR (i:Nat){y:Str}{n h:Pos}{elt tg iter:Expr}{l:.av}{scope:Scope}{pos:Pos}{N':.U}{no:Nat}{cap:.D}{g:FA}{fg:FG}{ft:FT}{fe:pQ}(W:.eM)(d:X.N[i]? = some y)(R:.bN)
  (hx:X.xe=fun _ _=>False) (U:.bp) (B:.gm) (J:.b6)
  (K:∀(k j:Nat),cap[k]? = some j->∃x,N'[no+k]? = some x/\X.N[j]? = some x/\(x,NameKind.free)∈scope.names) (hi:.ei)
  (L:∀C cs Y8 Y9 fp pins,SG .v tg fg) (Y:∀C cs Y8 Y9 fp pins,Ey .v l ft) (he:∀C cs Y8 Y9 fp pins,Bp .v elt fe)
  (S:swapsWith .R (.aX .f1) h.line X.env=pure true:=by rfl) (hs:∀x,foldedSetIterable iter X.env x=pure x:=by intro _;rfl) (Y0 Y9:Hp):
  PS X (.bw .R) (QB X.K Y0 Y9 i (nR no cap g fg ft fe)):=by
 intro pins s σ H Dn I ⟨F,τ,r,τ',E,e1,q⟩
 obtain⟨⟨ts,τ1⟩,e2,e1⟩:=bind_some e1
 dsimp only at e1
 split at e1
 ·next ha =>
  obtain⟨rs,e3,e1⟩:=bind_some e1
  cases e1
  have G:∀y∈scope.names,y.2=.free->∃c,X.env.cells.lookup y.1=some c:=.ca
  rw [exec_Assign_Name_used _ _ _ _ S]
  refine .f (wpAny_standAt (.L (?_:wpAny _ X.A (do let _ <- comprehension (.ListComp elt [⟨tg,iter,l,0⟩] scope pos) scope X.env _ (newList []) false (.V iter) (.aX (assign .f1 X.env))) _ _ s)))
  refine .f (cF (wpAny_comprehension_free (use:=some (assign .f1 X.env)) (Q:=fun _ s'=>SP X pins Dn .next s') rfl hs (jT G) B.kind B.names (sJ hx U B J K hi L Y he I E e2 ha e3 fun D C s' Z=>?_)) fun _ s' hq=>wpAny_pure (.ah hq))
  obtain⟨H3,F3,As,f,T,sF,ro,nd,h0,ap,P⟩:=Z.fin
  obtain⟨m,hm⟩:=Z.ns
  refine (wpAny_assign_Name (qz f W d (.inl R) (v:=.ref D) rfl (fun V p w=>?_) (.inr R)):wpAny _ X.A (assign .f1 X.env (.d D)) _ _ _)
  obtain⟨a,N,t⟩:=w
  have A:C≠a:=fun z=>by
   subst z
   rcases t with z | z
   ·exact Z.cl z
   ·exact Z.cc _ _ z rfl
  refine⟨m,hm.sameBut N A,fun h' u=>⟨_,H3,p.turned (t':=V.toks) (it:=C) (fun b o hb e=>(u.2 b hb).trans e) P Z.cl (.inr Z.c0) Z.cc Z.cp,?_⟩⟩
  exact q F3 H3 _ As T sF ro nd h0 ap
 ·cases e1
end
def gd (H:Hp)(A:.V):Hp:=fun a=>if a∈A then none else H a
theorem gH {H:Hp}{A:.V}{a:Addr}(h:a∈A):gd H A a=none:=.jo
theorem bG {H:Hp}{A:.V}{a:Addr}(h:a∉A):gd H A a=H a:=if_neg h
theorem wb {H:Hp}{A:.V}:aJ (gd H A) H:=fun a o e=>by
 by_cases m:a∈A
 ·rw [gH m] at e;cases e
 ·rw [bG m] at e;exact e
section
variable {K:.j}{Y0 Y9 F₁ H₁ F H F' H':Hp}{σ:L2.St}{τ:az}
theorem aB.back (E:aB K F₁ H₁ F H σ τ)(ha:bF τ=true)(g:aZ Y0 Y9 F₁ H₁):aB K Y0 Y9 F H σ τ:=by
 refine⟨g.trans E.g,E.len,fun i sl e=>?_,fun i j ts us p _ e1=>absurd e1 (ee ha)⟩
 obtain⟨v,h1,h2⟩:=E.sl i sl e
 cases sl with
 |sh t=>exact⟨v,h1,h2⟩
 |own ts=>exact absurd e (ee ha)
theorem aB.to (E:aB K F₁ H₁ F H σ τ)(ha:bF τ=true)(sF:aJ F F')(g:aZ Y0 Y9 F' H'):aB K Y0 Y9 F' H' σ τ:=by
 refine⟨g,E.len,fun i sl e=>?_,fun i j ts us p _ e1=>absurd e1 (ee ha)⟩
 obtain⟨v,h1,h2⟩:=E.sl i sl e
 cases sl with
 |sh t=>exact⟨v,h1,Rep.mono sF h2⟩
 |own ts=>exact absurd e (ee ha)
theorem fF.over {o:O}{v:V}{A:.V}(g:aZ F H F' H')(h:fF K F H o v A):fF K F' H' o v A:=by
 refine fF.move g.sF (fun a ha=>?_) h
 obtain⟨f1,ws,f2⟩:=h.at a ha
 refine⟨by rw [g.sH _ _ f2,f2],?_⟩
 cases n:F' a with
 |none=>rfl
 |some o =>
  rcases g.nw _ o n with z | z
  ·rw [f1] at z;cases z
  ·rw [f2] at z;cases z
end
section
variable {X:Cx}{e:Expr}{f:FE}{ft:FT}{es:.av}{g:FA}
theorem SE.any (h:.fx):PE X e (fun σ H Q=>∃Y0 Y9,tE X.K Y0 Y9 f σ H Q):=fun pins s σ H Q I .g8=>h Y0 Y9 pins s σ H Q I q
theorem ST.any (h:ST X e ft):PT X e (fun σ H Q=>∃Y0 Y9,tT X.K Y0 Y9 ft σ H Q):=fun pins s σ H Q I .g8=>h Y0 Y9 pins s σ H Q I q
theorem vM.any {a:.a4}{fs:FS}(h:vM X a fs):lj X a (fun D σ H=>∃Y0 Y9,tS X.K Y0 Y9 fs D σ H):=fun pins s σ H D I .g8=>h Y0 Y9 pins s σ H D I q
end
section
variable {X:Cx}
noncomputable def boolsOf:List T->Option (List Bool)
 |[]=>some []
 | .bl b::r=>(boolsOf r).bind fun bs=>some (b::bs)
 |_=>none
def mZ:List T->Option T
 |[.lst ts]=>(boolsOf ts).bind fun bs=>some (.bl (bs.all id))
 |_=>none
theorem vV {K:.j}{F:Hp}:∀{ts:List T} {bs:List Bool} {vs:List V} {G:.S},boolsOf ts=some bs->aM K F ts vs->Vals vs G->G=bs.map Value.bool
 |[],bs,vs,G,e,r,z=>by
  cases e;cases r;cases z;rfl
 |t::ts,bs,vs,G,e,r,z=>by
  obtain⟨v,y,rfl,h1,h2⟩:=r
  unfold boolsOf at e
  split at e
  ·next he=>cases he
  ·next b i he =>
   cases he
   obtain⟨p,e1,e2⟩:=bind_some e
   cases e2
   cases h1
   cases z with
   |cons a c =>
    cases a
    rw [vV e1 h2 c]
    rfl
  ·cases e
theorem J0 {s:Shared}{h':Heap}{o:Obj}(hk:∀b x,b∉[s.heap.objs.size]->(s.heap.push o).get? b=some x->h'.get? b=some x):∀b x,s.heap.get? b=some x->h'.get? b=some x:=
 fun b x e=>hk b x (fun hm=>by rw [zac.mp hm] at e;exact za4 _ .aJ) (.X e)
theorem range_all (bs:List Bool):((List.range bs.length).all fun i=>(bs[i]?).getD true)=bs.all id:=by
 induction bs with
 |nil=>rfl
 |cons b bs A =>
  rw [zap,List.range_succ_eq_map,List.all_cons,zbS]
  simp only [List.all_cons,List.getElem?_cons_zero,Option.getD_some,id]
  rw [<- A]
  congr 1
theorem xk (U:.bp):gf X (.builtin "all") mZ:=by
 intro pins s σ H xs us Q I N ⟨F,ts,t,R,r,e,q⟩
 unfold mZ at e
 split at e
 ·next ts =>
  obtain⟨bs,e1,e2⟩:=bind_some e
  cases e2
  obtain⟨v,y,rfl,⟨p,vs,rfl,h1,h2⟩,rfl⟩:=r
  obtain⟨u,rfl,S⟩:=Vals.one N
  cases S
  obtain⟨G,f,pl,hz⟩:=I.list .fJ
  have hb:=vV e1 h2 f
  subst hb
  have hl:=pl.isList
  have B:@LT.lt Nat _ p s.heap.objs.size:=by obtain⟨_,e,_⟩:=hl;exact Heap.lt_size e
  refine call_all_walk (wpAny_pyIter_list hl ?_)
  refine⟨s.heap.objs.size,[s.heap.objs.size,p],[s.heap.objs.size],(bs.map Value.bool).toArray.size,_,_,fun i=>(bs[i]?).getD true,rfl,PySem.Walks.list (A:=X.A.in1) .dk _ p (zas B) (bs.map Value.bool).toArray,
   ⟨.dz,hl.push _⟩,fun i v s' k Z j d=>?_,fun h' tk hk=>?_⟩
  ·have a:(bs.map Value.bool)[i]? = some v:=by simpa using j
   rw [zaI] at a
   cases C:bs[i]? with
   |none=>rw [C] at a;cases a
   |some b =>
    rw [C] at a
    have:v=.bool b:=(zaN a).symm
    subst this
    simp only [C,Option.getD_some] at d
    exact wpAny_truthy_bool d
  ·have e:((List.range (bs.map Value.bool).toArray.size).all fun i=>(bs[i]?).getD true)=bs.all id:=by
    rw [zaE,zah]
    exact range_all bs
   rw [e]
   exact⟨.bl _,H,I.kept (t':=tk) (J0 hk),rfl,q F H _ .ao rfl⟩
 ·cases e
def gh:List T->Option T
 |[.lst ts]=>some .iy
 |[.tup ts]=>some .iy
 |_=>none
theorem fT:gf X (.type "tuple") gh:=iw uR fun vs H Q G=>by
 obtain⟨F,ts,t,R,r,e,q⟩:=G
 unfold gh at e
 split at e
 ·obtain⟨v,y,rfl,⟨p,xs,rfl,h1,h2⟩,rfl⟩:=r
  cases e
  refine⟨p,xs,rfl,.inl ⟨gE.of (R _ _ h1),fun l hl=>?_⟩⟩
  have A:=aZ.new .dZ R hl
  exact q _ _ _ A ⟨l,xs,rfl,mQ.of aF,aM.mono A.sF h2⟩
 ·obtain⟨v,y,rfl,⟨p,xs,rfl,h1,h2⟩,rfl⟩:=r
  cases e
  exact⟨p,xs,rfl,.inr ⟨bZ R h1,q F H _ .ao ⟨p,xs,rfl,h1,h2⟩⟩⟩
 ·cases e
theorem J6:Ow X "int.bit_length" (fun x vs H Q=>∃i,x=.int i/\vs=[]/\Q (.ak (Builtin.Int.intBits i)) H):=by
 intro pins s σ H x vs v us Q I N f ⟨i,hx,c,q⟩
 subst hx;subst c
 obtain⟨t,rfl⟩:=N
 have:=f.zero
 subst this
 exact PyProof.Rows.call_int_bit_length ⟨.int _,H,.hG,.ag,q⟩
def ti:T->Option T
 | .int i=>some (.ak (Builtin.Int.intBits i))
 |_=>none
theorem D7 {e:Expr}{f:FE}{p2 p3:Pos}(he:.fx)(C:attributeBase e "bit_length" X.env (.V e)=eval e X.env:=by rfl)(n:.hu=true:=by rfl):
  SE X (.Call (.Attribute e "bit_length" p2) [] [] p3) (xy ti f):=fun Y0 Y9 =>
 PE.weak (Ik PySem.F.plainAttrs_int PySem.F.slot_int_bit_length PySem.F.type_int_bit_length J6 .eB C n) fun σ H Q G=>by
  obtain⟨F,τ,t,τ',E,e1,q⟩:=G
  obtain⟨⟨x,τ1⟩,e2,e1⟩:=bind_some e1
  obtain⟨z,e4,e1⟩:=bind_some e1
  cases e1
  refine⟨F,τ,x,_,E,e2,fun F1 H1 l V s1 r1=>?_⟩
  dsimp only at e4
  unfold ti at e4
  split at e4
  ·cases e4;cases r1
   exact⟨rfl,_,rfl,rfl,q F1 H1 _ V s1 rfl⟩
  ·cases e4
theorem eM {x:Str}{i:Int}{t:Tok}{pos:Pos}(L:Gl X x)(hm:X.mg x=some (.ae i t))(hd:.M=false:=by decide):SE X .fB (fC .eQ):=gO (rQ (v:=.int i) L hm .ag hd) fun _=>rfl
noncomputable def aR (f:FE):FA:=fun τ=>(f τ).bind fun p=>match p.1 with | .lst ts=>some (ts,p.2) | .scr ts=>some (ts,p.2) | .tup ts=>some (ts,p.2) | _=>none
theorem bV {tg l:Expr}{f:FE}(h:SE X l f):SI X tg l (aR f):=by
 intro Y0 Y9 pins s σ H R I ⟨F,τ,ts,τ',E,e1,q⟩
 obtain⟨⟨x,τ1⟩,e2,e1⟩:=bind_some e1
 dsimp only at e1
 split at e1
 ·exact Eg h Y0 Y9 pins s σ H R I ⟨F,τ,ts,τ',E,by unfold BH;rw [e2];exact e1,q⟩
 ·exact Eg h Y0 Y9 pins s σ H R I ⟨F,τ,ts,τ',E,by unfold BH;rw [e2];exact e1,q⟩
 ·exact NA h Y0 Y9 pins s σ H R I ⟨F,τ,ts,τ',E,by unfold GR;rw [e2];exact e1,q⟩
 ·cases e1
end
theorem JG {P:.ai}{w:World}{K:.j}{mg:.G}{base:Heap}{x qual:Str}{st:Stmt}{f:Addr}{fd:.e7}{N ps:.U}{k:Nat}{fb:FS}(F:.dD)(S:.hK)
  (h:∀(cdv:Value) (A:Around) (outer:.e6) (s:Shared) (H:Hp) (E:XK),eG k .aK->vM (sP uQ P w K mg base N qual (ax st) f cdv A outer s H E).nox (eT st) fb):
  iO P w K mg base uQ (k+1) f fd ps (spT K ps.length (cy N.length ps.length fb)):=by
 refine F.ok S .ir .cJ
 obtain⟨hl,F1,ts,t,R,r,e,q⟩:=z
 unfold cy at e
 split at e
 ·next hn =>
  obtain⟨Y,e1,e⟩:=bind_some e
  refine⟨_,h cdv A outer s H E hr F1 H,F1,_,Y,?_,e1,?_⟩
  ·have:=jD (N:=N) R r
   rw [hn] at this
   exact this
  ·cases Y with
   |rt u=>cases e;exact fun F' H' v g Y=>q F' H' v g Y
   |nx τ=>cases e;exact fun F' H' σ' Z s'=>q F' H' .non Z.g rfl
   |bk τ=>cases e
   |ct τ=>cases e
 ·cases e
theorem SS.any {X:Cx}{st:Stmt}{fs:FS}(h:SS X st fs):PS X st (fun D σ H=>∃Y0 Y9,tS X.K Y0 Y9 fs D σ H):=fun pins s σ H D I .g8=>h Y0 Y9 pins s σ H D I q
section
variable {K:.j}{F0 H0 F H F1 H1:Hp}{p:Addr}{os:List O}{A:.V}
def Bs:List O->Bool
 |[]=>true
 | .val _::r=>Bs r
 |_::_=>false
theorem cq.plain:∀{ro:List O} {ws:List V} {C:.V},Bs ro=true->cq K F H ro ws C->C=[]/\aM K F (O.trs ro) ws
 |[],ws,C,_,h=>⟨h.2,h.1⟩
 | .val t::r,ws,C,ha,h=>by
  obtain⟨v,q,B,D,rfl,rfl,⟨rfl,h1⟩,h2⟩:=h
  obtain⟨rfl,M⟩:=cq.plain (ro:=r) ha h2
  exact⟨rfl,v,q,rfl,h1,M⟩
 | .lst _::r,ws,C,ha,h=>by cases ha
theorem jK:∀(ts:List T),O.trs (ts.map O.val)=ts
 |[]=>rfl
 |t::ts=>by rw [zaf,O.trs,jK ts];rfl
end
noncomputable def Uo (K:.j)(n:Nat)(d:.gP):Sp:=fun vs H Q _=>vs.length=n/\∃F ts o,aJ F H/\aM K F ts vs/\d ts=some o /\
 ∀F' H' v A,aZ F H F' H'->fF K F' H' o v A->A.Nodup->(∀a∈A,H a=none)->Q v H'
structure zp (P:.ai)(w:World)(K:.j)(mg:.G)(base:Heap)(k:Nat)(x:Str)(n:Nat)(d:.gP):Prop where
 ex:∃f fd ps,iO P w K mg base uQ k f fd ps (Uo K n d)/\Binds K fd ps []/\PySem.W.keepIn K (.d f)=true/\mg x=some (.d f)/\ps.length=n
section
variable {P:.ai}{w:World}{K:.j}{mg:.G}{base:Heap}{j k n:Nat}{x:Str}
theorem zp.mono {d:.gP}(D:zp P w K mg base j x n d)(h:j≤k):zp P w K mg base k x n d:=by
 obtain⟨f,fd,ps,F,r⟩:=D.ex
 exact⟨f,fd,ps,F.mono h,r⟩
end
section
variable {X:Cx}{e:Expr}{es:.av}{pos:Pos}{g:FA}
def lT (d:.gP)(g:FA):pQ:=fun τ=>(g τ).bind fun p=>(d p.1).bind fun o=>some (o,p.2)
theorem Gn {K:.j}{Y0 Y9 F H:Hp}{σ:L2.St}{τ:az}{A:.V}(E:.aw)(n:∀a∈A,H a=none):Apart σ τ A:=fun j us q e1 e2 m=>by
 obtain⟨v,k1,d,u,rfl,k2,_⟩:=E.sl j _ e1
 rw [e2] at k1;cases k1
 rw [n _ m] at k2;cases k2
theorem A5 {k n:Nat}{x:Str}{p:Pos}{d:.gP}(D:zp X.prog X.w X.K X.mg X.base k x n d)(hr:eG k X.A)(L:Gl X x)(ha:SA X (e::es) g)(hl:∀τ ts τ',g τ=some .ib->ts.length=n)(G:.M=false:=by decide)
  (he:starEach (e::es) X.env=(.p e)::starEach es X.env:=by rfl) (l:(backTo pos .bm).any (·.1)=false:=by rfl):Bp X .aP (lT d g):=by
 obtain⟨f,fd,ps,F,hb,hk,hm,hn⟩:=D.ex
 intro Y0 Y9
 refine PE.weak (DW (E:=E0) (CX:=uQ) F hr L hm hk hb .nil AG .bT G he l) fun σ H Q h=>?_
 obtain⟨F,τ,c,τ',E,e1,q⟩:=h
 obtain⟨⟨z,τ1⟩,e2,e1⟩:=bind_some e1
 have hz:=hl _ _ _ e2
 obtain⟨u,e4,e1⟩:=bind_some e1
 cases e1
 refine⟨F,τ,z,_,E,e2,fun F1 H1 vs V s1 r1=>⟨by rw [zaw,r1.length];exact hz,F1,z,c,V.g.fh,by rw [zaw];exact r1,e4,fun F3 H3 J A B r3 nd h0=>?_⟩⟩
 exact q F3 H3 J A (V.grow B) (s1.trans B.sF) r3 nd (fun a ha=>V.g.sH.free (h0 a ha)) (Gn V h0)
abbrev Lg:=az->Option O
noncomputable def Uw (K:.j)(Y0 Y9:Hp)(f:Lg):TS:=fun D σ H=>∃F τ o,aB K Y0 Y9 F H σ τ/\f τ=some o/\∀F' H' v A,aZ Y0 Y9 F' H'->fF K F' H' o v A->A.Nodup->(∀a∈A,Y9 a=none)->D.rt v H'
def Ts (X:Cx)(a:.a4)(f:Lg):Prop:=∀Y0 Y9,lj X a (Uw X.K Y0 Y9 f)
def Dh (f:pQ):Lg:=fun τ=>(f τ).bind fun p=>some p.1
theorem K2 {f:pQ}(h:Bp X e f):Ts X [.Return (.aX e) pos] (Dh f):=fun Y0 Y9=>lj.weak (rR (Cn .cT)) fun D σ H G=>by
 obtain⟨F,τ,o,E,e1,q⟩:=G
 obtain⟨⟨x,τ1⟩,e2,e1⟩:=bind_some e1
 cases e1
 exact⟨F,τ,_,τ1,E,e2,fun F' H' v A Z _ r nd h0 _=>q F' H' v A Z.g r nd h0⟩
def OU (t:FS)(u:Lg):Lg:=fun τ=>(t τ).bind fun r=>match r with | .nx τ'=>u τ' | _=>none
end
def Jx (m n:Nat)(fb:Lg):List T->Option O:=fun ts=>if ts.length=n then fb (.y (m-n)) else none
section
variable {P:.ai}{w:World}{K:.j}{mg:.G}{base:Heap}
theorem JB {x qual:Str}{st:Stmt}{f:Addr}{fd:.e7}{N ps:.U}{k:Nat}{fb:Lg}(F:.dD)(S:.hK)(hb:.i2)(hm:mg x=some (.d f))
  (h:∀(cdv:Value) (A:Around) (outer:.e6) (s:Shared) (H:Hp) (E:XK),eG k .aK->Ts (sP uQ P w K mg base N qual (ax st) f cdv A outer s H E).nox (eT st) fb):
  zp P w K mg base (k+1) x ps.length (Jx N.length ps.length fb):=by
 refine⟨f,fd,ps,F.ok S .ir .cJ,hb,F.kp,hm,rfl⟩
 obtain⟨hl,F1,ts,o,R,r,e,q⟩:=z
 unfold Jx at e
 split at e
 ·next hn =>
  refine⟨_,h cdv A outer s H E hr F1 H,F1,_,o,?_,e,fun F' H' v A g ro nd h0=>q F' H' v A g ro nd h0⟩
  have:=jD (N:=N) R r
  rw [hn] at this
  exact this
 ·cases e
end
section
variable {X:Cx}{e:Expr}{es:.av}{pos:Pos}{g:FA}
noncomputable def Me (fo:pQ)(g:FA)(d:O->List T->Option T):FE:=fun τ=>(fo τ).bind fun p=>if bF p.2=true then (g p.2).bind fun r=>if bF r.2=true then (d p.1 r.1).bind fun t=>some (t,r.2) else none else none
noncomputable def GO (fo:pQ)(f:FE):FS:=fun τ=>(fo τ).bind fun p=>match p.1 with
 | .lst os=>if bF p.2=true/\os.length<sizeLine then (f p.2).bind fun r=>if bF r.2=true then some (.nx r.2) else none else none
 |_=>none
noncomputable def xD:T->T->Option T
 | .lst ts,.int k=>if (-(2^63)≤k/\k<2^63)/\ts.length*k.toNat≤sizeLine then some (.aw ts) else none
 |_,_=>none
theorem AR {K:.j}{F:Hp}{ts:List T}{vs:List V}(h:.f4):∀k:Nat,aM K F (List.replicate k ts).flatten (List.replicate k vs).flatten
 |0=>rfl
 |k+1=>by
  rw [zaH,zaH,zaR,zaR]
  exact h.append (AR h k)
theorem Ie:lh X (binaryOp .Mult) xD:=by
 intro pins s σ H x y v u Q I N S ⟨F,a,b,t,R,m,B,e,q⟩
 unfold xD at e
 split at e
 ·next ts k =>
  split at e
  ·next U =>
   cases e
   obtain⟨p,xs,rfl,h1,h2⟩:=m
   cases B
   refine MQ pins s σ H _ _ v u Q I N S ⟨p,k,xs,rfl,rfl,R _ _ h1,U.1.1,U.1.2,by rw [h2.length];exact U.2,fun l hl=>?_⟩
   have A:=aZ.new (.aw xs) R hl
   exact q _ _ _ A ⟨l,_,rfl,aF,aM.mono A.sF (AR h2 _)⟩
  ·cases e
 ·cases e
end
section
variable {X:Cx}
end
section
variable {prog:.ai}{w:World}{A:Around}{E:.n}{s:Shared}
end
section
variable {X:Cx}
end
section
variable {prog:.ai}{w:World}{A:Around}{R:.e4}{I:Addr}{fp wr:.V}{n:Nat}{P:Nat->Value->Prop}{St:Nat->Heap->Prop}{kw:.ek}
end
section
variable {prog:.ai}{w:World}{A:Around}{E:.n}{s:Shared}
end
section
variable {X:Cx}
end
section
variable {X:Cx}
end
theorem sq:∀ts:List T,Bs (ts.map O.val)=true
 |[]=>rfl
 |_::ts=>sq ts
theorem SI.any {X:Cx}{tg e:Expr}{f:FA}(h:SI X tg e f):PI X tg e (fun σ H R=>∃Y0 Y9,tI X.K Y0 Y9 f σ H R):=fun pins s σ H R I .g8=>h Y0 Y9 pins s σ H R I q
noncomputable def kd:T->Nat
 | .non=>1 | .bl _=>2 | .int _=>0 | .str _=>3 | .ty _=>4 | .tup _=>5 | .lst _=>5 | .scr _=>5 | .dct _ _=>5 | .obj _ _ _=>5 | .ptr _=>5 | .exc _ _ _=>5
noncomputable def Q4 (us ts:List T):Bool:=us.length != ts.length||(List.zip us ts).any fun p=>kd p.1 != kd p.2
mutual
def apart (us:List T):T->Bool
 | .tup ts=>jg us ts
 | .lst ts=>Q4 us ts&&jg us ts
 | .scr _=>false
 | .obj _ _ ts=>jg us ts
 | .dct _ ts=>jg us ts
 | .exc _ _ ts=>jg us ts
 |_=>true
def jg (us:List T):List T->Bool
 |[]=>true
 |t::ts=>apart us t&&jg us ts
end
def Ue:V->Nat
 | .non=>1 | .bl _=>2 | .int _=>0 | .str _=>3 | .ty _=>4 | .ref _=>5 | _=>6
theorem Pm {K:.j}{F:Hp}{t:T}{v:V}(h:.ih):kd t=Ue v:=by
 cases t with
 |non=>rw [show v=_ from h];rfl
 |bl b=>rw [show v=_ from h];rfl
 |int b=>rw [show v=_ from h];rfl
 |str b=>rw [show v=_ from h];rfl
 |ty b=>rw [show v=_ from h];rfl
 |tup ts=>obtain⟨a,xs,e,_⟩:=h;rw [e];rfl
 |lst ts=>obtain⟨a,xs,e,_⟩:=h;rw [e];rfl
 |scr ts=>obtain⟨a,xs,e,_⟩:=h;rw [e];rfl
 |dct _ _=>obtain⟨a,_,_,e,_⟩:=h;rw [e];rfl
 |obj _ _ _=>obtain⟨a,_,_,e,_⟩:=h;rw [e];rfl
 |ptr _=>rw [show v=_ from h];rfl
 |exc _ _ _=>obtain⟨a,_,e,_⟩:=h;rw [e];rfl
theorem MC {K:.j}{F:Hp}{t u:T}{v:V}(h:.ih)(h':Rep K F u v):kd t=kd u:=(Pm h).trans (Pm h').symm
theorem C9 {K:.j}{F:Hp}:∀{us ts:List T} {vs:List V},aM K F us vs->aM K F ts vs->Q4 us ts=false
 |[],[],_,_,_=>rfl
 |[],t::ts,_,h,h'=>by
  obtain⟨v,r,e,_⟩:=h'
  rw [show _=[] from h] at e;cases e
 |u::us,[],_,h,h'=>by
  obtain⟨v,r,e,_⟩:=h
  rw [show _=[] from h'] at e;cases e
 |u::us,t::ts,_,h,h'=>by
  obtain⟨v,r,rfl,h1,h2⟩:=h
  obtain⟨W,Y,e,M,D⟩:=h'
  cases e
  have A:=C9 h2 D
  unfold Q4 at A ⊢
  simp only [List.length_cons,List.zip_cons_cons,List.any_cons,MC h1 M,bne_self_eq_false,Bool.false_or] at A ⊢
  simpa using A
mutual
theorem Rep.drop {K:.j}{F:Hp}{a:Addr}{us:List T}{vs:List V}(ha:F a=some .bn)(hu:aM K F us vs):∀{t:T} {v:V},apart us t=true->Rep K F t v->Rep K (gd F [a]) t v
 | .non,_,_,h=>h
 | .bl _,_,_,h=>h
 | .int _,_,_,h=>h
 | .str _,_,_,h=>h
 | .ty _,_,_,h=>h
 | .tup ts,_,k,h=>by
  obtain⟨b,xs,h1,h2,M⟩:=h
  refine⟨b,xs,h1,?_,aM.drop' ha hu .gi M⟩
  rcases h2 with (h2 | ⟨o,h2⟩) | h2
  ·refine .inl (.inl ?_)
   rw [.bP];exact h2
  ·refine .inl (.a1 ⟨o,?_⟩)
   rw [.bP];exact h2
  ·exact .inr h2
 | .lst ts,_,k,h=>by
  obtain⟨b,xs,h1,h2,M⟩:=h
  have n:Q4 us ts=true/\jg us ts=true:=by simpa [apart] using k
  refine⟨b,xs,h1,?_,aM.drop' ha hu n.2 M⟩
  rw [bG (fun m=>by
   rw [zac.mp m,ha] at h2
   cases h2
   rw [C9 hu M] at n
   exact absurd n.1 .e)]
  exact h2
 | .scr _,_,k,_=>by simp [apart] at k
 | .dct ns ts,_,k,h=>by
  obtain⟨b,ob,xs,h1,h2,M,D⟩:=h
  refine⟨b,ob,xs,h1,?_,M,aM.drop' ha hu .gi D⟩
  rw [.bP]
  exact h2
 | .obj C ns ts,_,k,h=>by
  obtain⟨b,dx,xs,h1,h2,M,D⟩:=h
  refine⟨b,dx,xs,h1,?_,M,aM.drop' ha hu .gi D⟩
  rw [.bP]
  exact h2
 | .ptr _,_,_,h=>h
 | .exc _ _ ts,_,k,h=>by
  obtain⟨b,od,h1,h2,M⟩:=h
  refine⟨b,od,h1,?_,M.imp id fun⟨d,u,k1,k2,k3,N⟩=>⟨d,u,k1,?_,k3,aM.drop' ha hu .gi N⟩⟩
  ·rw [.bP]
   exact h2
  ·rw [bG (fun m=>by rw [zac.mp m,ha] at k2;cases k2)]
   exact k2
theorem aM.drop' {K:.j}{F:Hp}{a:Addr}{us:List T}{vs:List V}(ha:F a=some .bn)(hu:aM K F us vs):∀{ts:List T} {ws:List V},jg us ts=true->aM K F ts ws->aM K (gd F [a]) ts ws
 |[],_,_,h=>h
 |t::ts,_,k,h=>by
  obtain⟨v,r,h1,h2,M⟩:=h
  have n:apart us t=true/\jg us ts=true:=by simpa [jg] using k
  exact⟨v,r,h1,Rep.drop ha hu n.1 h2,aM.drop' ha hu n.2 M⟩
end
theorem aZ.lent {F H F' H':Hp}{a:Addr}{o:HO}(N:F a=none)(g:aZ (upd F a o) H F' H'):aZ F H (gd F' [a]) H':=by
 have sF:aJ F (gd F' [a]):=fun b u e=>by
  have hb:b≠a:=fun z=>by rw [z,N] at e;cases e
  rw [bG .hS]
  exact g.sF b u (by rw [ay hb];exact e)
 refine⟨sF,g.sH,fun b u e=>?_,fun b u e=>?_⟩
 ·by_cases hb:b=a
  ·rw [hb,gH .hj] at e;cases e
  ·rw [bG .hS] at e
   exact g.fh b u e
 ·by_cases hb:b=a
  ·rw [hb,gH .hj] at e;cases e
  ·rw [bG .hS] at e
   rcases g.nw b u e with z | z
   ·rw [ay hb] at z;exact .inl z
   ·exact .inr z
section
variable {X:Cx}{e:Expr}{pos:Pos}
end
noncomputable def RI (K:.j)(l:Addr):It:=
  ⟨fun i H=>∃xs x,gE K H l xs/\xs[i]? = some x,
   fun i H v H'=>∃p x,v=.ref p/\H p=none/\H'=upd H p (.tup [.int i,x])/\∀xs,gE K H l xs->xs[i]? = some x,
   fun i H=>∃xs,gE K H l xs/\xs.length≤i⟩
structure TV (e it l:Addr)(i:Nat)(h:Heap):Prop where
 he:∃old,IsEnum h e it (i:Int) old
 hi:h.IsListIter it l i
theorem FK {P:.ai}{w:World}{K:.j}{elts:.av}{kx:Nat}{px:Pos}{e it l:Addr}(y:e≠it):
  Turn P w K .en (RI K l) [e,it] e (TV e it l) where
 mem:=.f
 obj:=fun i h st b hb=>by
  simp only [List.mem_cons,List.not_mem_nil,or_false] at hb
  rcases hb with rfl | rfl
  ·obtain⟨old,q⟩:=st.he
   exact⟨_,q,fun v q=>nomatch (show Data.fields _=Data.cell v from q)⟩
  ·obtain⟨o,ho,U,hd⟩:=st.hi
   exact⟨o,ho,fun v q=>by rw [hd] at q;cases q⟩
 keep:=fun i h h' st k=>by
  obtain⟨old,q⟩:=st.he
  exact⟨⟨old,k e .f _ q⟩,st.hi.at fun o x=>k it .f o x⟩
 item:=fun X j B T U i pins s σ H E I hf st L=>by
  subst j B T
  obtain⟨xs,x,q1,g1⟩:=L
  obtain⟨G,r1,p1⟩:=kP (b:=true) I q1
  obtain⟨u,e1,S⟩:=r1.get g1
  obtain⟨old,he⟩:=st.he
  refine wpAny_pyNext_enum_item he st.hi p1 (x:=u) (by simpa using e1) y fun h' ho f t hsz hk=>⟨_,rfl,?_⟩
  refine wpAny_letOwnedTupleGo_enum (s:={ s with heap:=h',toks:=s.toks+1 }) ho fun h2 b1 b2=>?_
  have le:e<s.heap.objs.size:=Heap.lt_size he
  have li:it<s.heap.objs.size:=by obtain⟨_,x,_⟩:=st.hi;exact Heap.lt_size x
  have kp:∀b o,b∉[e,it]->s.heap.get? b=some o->h2.get? b=some o:=fun b o hb z=>by
   simp only [List.mem_cons,List.not_mem_nil,or_false,not_or] at hb
   exact (b2.2 b hb.1).trans (hk b o hb.1 hb.2 z)
  have pr:h2.get? s.heap.objs.size=some { cls:=.type "tuple", data:=.seq #[.int i s.toks,u] }:=(b2.2 _ (zaW le)).trans t
  have fr:.cF:=I.hok.fresh .bJ
  have R:lF X.prog X.w (.J (.tup [.int i,x])) h2:=by
   intro c o z
   by_cases a:c=s.heap.objs.size
   ·subst a
    rw [aF] at z;cases z
    exact⟨by show 2≤sizeLine;decide,[.int i s.toks,u],.cons .ag (.aD S),_,pr,rfl,_,rfl⟩
   ·rw [ay a] at z
    have N:∀d o',H d=some o'->d∉[e,it]:=fun d o' p hd=>by rw [(hf d hd).1] at p;cases p
    have up:∀d o',H d=some o'->upd H s.heap.objs.size (.tup [.int i,x]) d=some o':=fun d o' p=>by rw [ay (bg p fr)];exact p
    refine (I.hok c o z).stay .jA (fun d q=>up d _ q) fun d xs q=>up d _ q
    rcases hd with rfl | hd
    ·exact N _ o z
    ·exact N d _ hd
  have J:Inv X pins σ (.J (.tup [.int i,x])) { s with heap:=h2,toks:=s.toks+1 }:=by
   have ne:∀b o,s.heap.get? b=some o->b≠s.heap.objs.size:=fun b o e=>zas .aJ
   refine I.step (g':=s.gens) (d':=s.drawn) (t':=s.toks+1) (ch:=[e,it]) (fun b hb=>?_) .h5 .e0 (fun b o _ e n=>by rw [ay (ne b o e)];exact n)
    .hv (fun b xs e=>by rw [ay .jE];exact e) (fun b o u e=>by rw [ay .jE];exact e) (fun b ps e=>⟨#[],by rw [ay .jE,e];simp⟩) (fun m hm=>?_) R I.bare
   ·obtain⟨_,f1,_,M,f4,F⟩:=hf b hb
    exact⟨M,f1,f4,F⟩
   ·obtain⟨o,es,ep,ho,r⟩:=hm
    exact⟨o,es,ep,kp _ o (fun q=>(hf _ q).2.1 rfl) ho,r⟩
  refine⟨.ref s.heap.objs.size,_,J,rfl,⟨_,x,rfl,fr,rfl,fun V h=>by rw [I.list_inj h q1];exact g1⟩,⟨⟨u,by simpa using b1⟩,f.at fun o z=>(b2.2 it (.bf y)).trans z⟩,fun b hb=>?_⟩
  have:b≠s.heap.objs.size:=by
   simp only [List.mem_cons,List.not_mem_nil,or_false] at hb
   rcases hb with rfl | rfl
   ·exact zas le
   ·exact zas li
  rw [ay this]
  exact (hf b hb).1
 done:=fun X j B T U i pins s σ H E I hf st L=>by
  subst j B T
  obtain⟨xs,q1,g⟩:=L
  obtain⟨G,r1,p1⟩:=kP (b:=true) I q1
  obtain⟨old,he⟩:=st.he
  have O:=r1.length
  refine wpAny_pyNext_enum_end .dk he st.hi p1 .i fun h' k=>⟨rfl,uE I hf fun b o hb e=>?_⟩
  simp only [List.mem_cons,List.not_mem_nil,or_false,not_or] at hb
  exact k b o hb.2 e
 self:=fun _ _ _ _ _ st h=>by
  obtain⟨old,he⟩:=st.he
  exact wpAny_pyIter_enum he h
def Df (k:Nat):List T->List T
 |[]=>[]
 |t::ts=>.tup [.int k,t]::Df (k+1) ts
theorem sV:∀(ts:List T) (k:Nat),(Df k ts).length=ts.length
 |[],_=>rfl
 |t::ts,k=>by simp [Df,sV ts]
theorem xu:∀(ts:List T) (k i:Nat) (t:T),(Df k ts)[i]? = some t->∃u,ts[i]? = some u/\t=.tup [.int ((k+i:Nat):Int),u]
 |[],_,_,_,h=>by simp [Df] at h
 |u::ts,k,0,t,h=>by
  simp [Df] at h
  exact⟨u,rfl,by simp [h]⟩
 |u::ts,k,i+1,t,h=>by
  obtain⟨v,e1,e2⟩:=xu ts (k+1) i t (by simpa [Df] using h)
  exact⟨v,by simpa using e1,by rw [e2];congr 4;omega⟩
theorem CK {K:.j}{F:Hp}{l:Addr}{xs:List V}{ts:List T}(h1:gE K F l xs)(h2:aM K F ts xs):Walks K F (Df 0 ts) (RI K l):=by
 refine⟨fun i t F1 H1 e s1 s2=>?_,fun i t F1 H1 x H2 e s1 s2 y=>?_,fun F1 H1 s1 s2=>⟨xs,(s1.trans s2).seq h1,by rw [sV,h2.length];exact zam _⟩⟩
 ·obtain⟨u,e1,_⟩:=xu ts 0 i t e
  obtain⟨v,g1,_⟩:=h2.get e1
  exact⟨xs,v,(s1.trans s2).seq h1,g1⟩
 ·obtain⟨p,v,rfl,hp,rfl,q1⟩:=y
  obtain⟨u,e1,rfl⟩:=xu ts 0 i t e
  obtain⟨c,g1,k1⟩:=h2.get e1
  have W:=q1 xs ((s1.trans s2).seq h1)
  rw [g1] at W;cases W
  have A:=aZ.new (.tup [.int i,v]) s2 hp
  exact⟨_,A,p,_,rfl,mQ.of aF,.int i,[v],rfl,by show V.int _=V.int _;rw [Nat.zero_add],v,[],rfl,Rep.mono .hs k1,rfl⟩
noncomputable def sX (g:FA):FA:=fun τ=>(g τ).bind fun p=>match p.1 with
 |[.lst ts]=>some (Df 0 ts,p.2)
 |_=>none
theorem KW {X:Cx}{a:Expr}{p pos:Pos}{ga:FA}{elts:.av}{kx:Nat}{px:Pos}(L:Gl X "enumerate")(hm:X.mg "enumerate" = none)(ha:SA X [a] ga)(hs:starEach [a] X.env=[(.p a)]:=by rfl):
  SI X .en (.Call (.Name "enumerate" p) [a] [] pos) (sX ga):=by
 intro Y0 Y9 pins s σ H R I ⟨F,τ,ts,τ',E,e1,q⟩
 obtain⟨⟨x,τ1⟩,e2,e1⟩:=bind_some e1
 dsimp only at e1
 split at e1
 ·next us =>
  cases e1
  refine Call_ (qb I L hm (show bootBuiltins "enumerate" = some (.type "enumerate") from rfl) (za7 (cF (ha Y0 Y9 pos pins s σ H (fun vs H'=>∃l xs,vs=[.ref l]/\gE X.K H' l xs/\R (RI X.K l) H') I ⟨F,τ,_,_,E,e2,fun F' H' vs Z s' Y=>?_⟩) fun vs s1 ⟨n,H1,O,r1,q1⟩=>?_) hs rfl))
  ·obtain⟨v1,r1,rfl,k1,rfl⟩:=Y
   obtain⟨l,xs,rfl,h1,h2⟩:=k1
   exact⟨l,xs,rfl,gE.of (Z.g.fh _ _ h1),q F' H' _ Z s' (CK (gE.of h1) h2)⟩
  ·obtain⟨l,xs,rfl,h1,q1⟩:=q1
   obtain⟨u,rfl,S⟩:=r1.one
   cases S
   obtain⟨G,_,p1⟩:=kP (b:=true) O h1
   refine call_enumerate_list p1 fun h' a1 a2 a3 kp=>wpAny_pyIter_enum (s:={ s1 with heap:=h' }) a1 ?_
   have J:Inv X pins σ H1 { s1 with heap:=h' }:=O.kept (t':=s1.toks) kp
   refine⟨_,[_,_],_,_,H1,rfl,J,FK (e:=s1.heap.objs.size+1) (it:=s1.heap.objs.size) (l:=l) ?_,⟨⟨_,a1⟩,a2⟩,fun b hb=>?_,q1⟩
   ·refine (?_:@Ne Nat _ _);omega
   ·have g:s1.heap.objs.size≤b:=by
     simp only [List.mem_cons,List.not_mem_nil,or_false] at hb
     rcases hb with rfl | rfl
     ·exact zbL _
     ·exact zam _
    exact .ad g
 ·cases e1
noncomputable def hide:az->az
 |[]=>[]
 |some (.own _)::τ=>none::hide τ
 |'0' t::τ=>'0' t::hide τ
 |none::τ=>none::hide τ
theorem fN:∀τ:az,(hide τ).length=τ.length
 |[]=>rfl
 |some (.own _)::τ=>by simp [hide,fN τ]
 |'0' t::τ=>by simp [hide,fN τ]
 |none::τ=>by simp [hide,fN τ]
theorem jG:∀{τ:az} {j:Nat} {s:Sl},(hide τ)[j]? = some (.aX s)->τ[j]? = some (.aX s)/\∃t,s=.sh t
 |[],j,s,h=>by simp [hide] at h
 |some (.own _)::τ,0,s,h=>by simp [hide] at h
 |'0' t::τ,0,s,h=>by simp [hide] at h;subst h;exact⟨rfl,t,rfl⟩
 |none::τ,0,s,h=>by simp [hide] at h
 |some (.own _)::τ,j+1,s,h=>by simpa using jG (τ:=τ) (j:=j) (by simpa [hide] using h)
 |'0' t::τ,j+1,s,h=>by simpa using jG (τ:=τ) (j:=j) (by simpa [hide] using h)
 |none::τ,j+1,s,h=>by simpa using jG (τ:=τ) (j:=j) (by simpa [hide] using h)
section
variable {K:.j}{Y0 Y9 F H F' H':Hp}{σ:L2.St}{τ:az}
theorem aB.look {i:Nat}{us:List T}{vs:List V}{a:Addr}(E:.aw)(hs:σ[i]? = some (.R a))(h2:H a=some .bn)(M:F a=none)(R:aM K F us vs):
  aB K .hq H .hq H σ ((hide τ).set i (.o .e2)):=by
 have sF:aJ F .hq:=cX M
 have sH:aJ .hq H:=fun b o C=>by
  by_cases hb:b=a
  ·rw [hb,aF] at C;cases C;rw [hb];exact h2
  ·rw [ay hb] at C;exact E.g.fh b o C
 have c:Rep K .hq .e2 (.d a):=⟨a,vs,rfl,aF,aM.mono sF R⟩
 have all:∀{j:Nat} {s:Sl},((hide τ).set i (.o .e2))[j]? = some (.aX s)->(∃t,s=.sh t)/\∃v,σ[j]? = some .cY/\zq K H .hq H s v:=fun {j s} e=>by
  by_cases P:i=j
  ·subst P
   by_cases hl:i<(hide τ).length
   ·rw [zak hl] at e;cases e
    exact⟨.ag,_,hs,c⟩
   ·rw [List.getElem?_eq_none .i] at e;cases e
  ·rw [zal P] at e
   obtain⟨e1,t,rfl⟩:=jG e
   obtain⟨v,k1,k2⟩:=E.sl j _ e1
   exact⟨⟨t,rfl⟩,v,k1,Rep.mono sF k2⟩
 refine⟨aZ.refl sH,by simp [fN,E.len],fun j s e=>(all e).2,fun j k ts ws p _ e1=>?_⟩
 obtain⟨t,z⟩:=(all e1).1
 cases z
theorem aB.setSh {i:Nat}{t:T}{v:V}(E:.aw)(hs:σ[i]? = some .cY)(r:.ih):aB K Y0 Y9 F H σ (.bb (.o t)):=by
 have:=E.set (i:=i) r
 rw [show σ.set i .cY=σ from by
  have hi:i<σ.length:=(zar.mp hs).1
  apply List.ext_getElem?
  intro j
  by_cases P:i=j
  ·subst P;rw [zak hi,hs]
  ·rw [zal P]] at this
 exact this
theorem aB.drop {i:Nat}(E:.aw):aB K Y0 Y9 F H σ (.bb none):=by
 have key:∀{j:Nat} {s:Sl},(τ.set i none)[j]? = some (.aX s)->τ[j]? = some (.aX s):=fun {j s} e=>by
  by_cases P:i=j
  ·subst P
   by_cases hl:i<τ.length
   ·rw [zak hl] at e;cases e
   ·rw [List.getElem?_eq_none .i] at e;cases e
  ·rw [zal P] at e;exact e
 exact⟨E.g,by simp [E.len],fun j s e=>E.sl j s (key e),fun j k ts us p a e1 e2=>E.dj j k ts us p a (key e1) (key e2)⟩
theorem aB.putOwn2 {i:Nat}{ts:List T}{vs:List V}{p:Addr}(E:.aw)(hp:H p=some .bn)(fp:F p=none)(h0:Y9 p=none)(ap:Apart σ τ [p])(r:.f4):
  aB K Y0 Y9 F H (σ.set i (.R p)) (.bb (.n ts)):=by
 refine⟨E.g,by simp [E.len],fun j s e=>?_,fun j k g us q a e1 e2 e3 e4=>?_⟩
 ·by_cases P:i=j
  ·subst P
   by_cases hl:i<τ.length
   ·rw [zak hl] at e
    cases e
    exact⟨.ref p,zak .c6,p,vs,rfl,hp,fp,h0,r⟩
   ·rw [List.getElem?_eq_none .i] at e;cases e
  ·rw [zal P] at e
   rw [zal P]
   exact E.sl j s e
 ·by_cases P:i=j
  ·subst P
   rw [zal a] at e2 e4
   by_cases hl:i<τ.length
   ·rw [zak .c6] at e3
    cases e3
    exact ap k us p e2 e4 .hj
   ·rw [List.getElem?_eq_none .i] at e1;cases e1
  ·rw [zal P] at e1 e3
   by_cases hk:i=k
   ·subst hk
    by_cases hl:i<τ.length
    ·rw [zak .c6] at e4
     cases e4
     exact ap j g p e1 e3 .hj
    ·rw [List.getElem?_eq_none .i] at e2;cases e2
   ·rw [zal hk] at e2 e4
    exact E.dj j k g us q a e1 e2 e3 e4
end
section
variable {X:Cx}{e:Expr}{pos:Pos}
noncomputable def nv (i:Nat)(f:FE):FE:=fun τ=>match τ[i]? with
 |some (.n us)=>(f ((hide τ).set i (.o .e2))).bind fun p=>some (p.1,if apart us p.1=true then τ else τ.set i (.o .e2))
 |_=>f τ
theorem D9 (i:Nat){f:FE}(h:.fx):SE X e (nv i f):=fun Y0 Y9=>PE.weak h.any fun σ H Q G=>by
 obtain⟨F,τ,t,τ',E,e1,q⟩:=G
 unfold nv at e1
 split at e1
 ·next us e3 =>
  obtain⟨⟨x,τ1⟩,e2,e1⟩:=bind_some e1
  obtain⟨v,h1,a,vs,rfl,h2,M,D,R⟩:=E.sl i _ e3
  have sF:aJ F .hq:=cX M
  refine⟨upd F a .bn,H,upd F a .bn,_,x,τ1,E.look h1 h2 M R,e2,fun F' H' W Z s' Y=>?_⟩
  have ha:F' a=some .bn:=s' _ _ aF
  have hu:aM X.K F' us vs:=aM.mono (sF.trans s') R
  dsimp only at e1
  by_cases d:apart us x=true
  ·rw [if_pos d] at e1
   cases e1
   have gl:=aZ.lent M Z.g
   exact q (gd F' [a]) H' W (E.grow gl) gl.sF (Rep.drop ha hu d Y)
  ·rw [if_neg d] at e1
   cases e1
   have gl:=aZ.lent M Z.g
   have c:Rep X.K F' .e2 (.d a):=⟨a,vs,rfl,ha,hu⟩
   have V:=E.grow gl
   have O:aB X.K Y0 Y9 F' H' σ (.bb (.o .e2)):=by
    have T:aB X.K Y0 Y9 F' H' σ (.bb none):=by
     refine⟨⟨E.g.sF.trans (sF.trans s'),V.g.sH,Z.g.fh,fun b o C=>?_⟩,by simp [E.len],fun j s g=>?_,(E.drop (i:=i)).dj⟩
     ·by_cases hb:b=a
      ·exact .a1 (by rw [hb];exact D)
      ·rcases Z.g.nw b o C with z | z
       ·rw [ay hb] at z
        rcases E.g.nw b o z with y | y
        ·exact .inl y
        ·exact .inr y
       ·exact .a1 (E.g.sH.free z)
     ·obtain⟨w,k1,k2⟩:=(V.drop (i:=i)).sl j s g
      refine⟨w,k1,?_⟩
      have n:aJ (gd F' [a]) F':=wb
      cases s with
      |sh t=>exact Rep.mono n k2
      |own ts =>
       obtain⟨p,ws,rfl,l,A,r,u⟩:=k2
       refine⟨p,ws,rfl,l,?_,r,aM.mono n u⟩
       have P:i≠j:=fun z=>by
        subst z
        by_cases hl:i<τ.length
        ·rw [zak hl] at g;cases g
        ·rw [List.getElem?_eq_none .i] at g;cases g
       rw [zal P] at g
       have k:p≠a:=fun z=>by subst z;exact E.dj i j us ts p P e3 g h1 k1
       rw [bG (fun m=>k (zac.mp m))] at A
       exact A
    have:=T.setSh (i:=i) h1 c
    rwa [List.set_set] at this
   exact q F' H' W O (sF.trans s') Y
 ·exact⟨Y0,Y9,F,τ,t,τ',E,e1,q⟩
noncomputable def Di (i:Nat)(f:pQ):FS:=fun τ=>(f τ).bind fun p=>match p.1 with
 | .lst os=>some (.nx (p.2.set i (.n (O.trs os))))
 | .val t=>some (.nx (p.2.set i (.o t)))
theorem K1 (i:Nat){x:Str}{pos':Pos}{f:pQ}(J:.eM)(hi:X.N[i]? = some x)(hx:.ej)(he:Bp X e f)(hs:swapsWith e (.aX (.af pos')) pos.line X.env=pure false:=by rfl)
  (hf:X.fn x=true\/X.env.scope.names.lookup x=some .local:=by first | exact .inl rfl | exact .inr rfl | assumption):SS X (.aW e) (Di i f):=fun Y0 Y9=>PS.weak (ug J hi hx .eB hs hf) fun D σ H G=>by
 obtain⟨F,τ,r,E,e1,q⟩:=G
 obtain⟨⟨o,τ1⟩,e2,e1⟩:=bind_some e1
 refine⟨F,τ,o,τ1,E,e2,fun F' H' v A Z s' ro nd h0 ap=>?_⟩
 dsimp only at e1
 split at e1
 ·next os =>
  cases e1
  obtain⟨p,vs,B,rfl,rfl,h1,h2,M⟩:=ro
  have b:=zaB.mp nd
  have N:∀a∈B,F' a=none:=fun a ha=>(M.at a ha).1
  have V:=Z.frzO (A:=B) N (fun a ha=>h0 a (zad _ ha)) (fun j us d e1 e2 m=>ap j us d e1 e2 (zad _ m))
  refine q _ H' _ (V.putOwn2 (i:=i) h1 (by rw [cH b.1];exact h2) (h0 p zae) (fun j us d e1 e2 m=>ap j us d e1 e2 (by rw [zac.mp m];exact zae)) (cq.rep (eg N) (fun a ha=>fA ha) M)) (s'.trans (eg N))
 ·cases e1
  exact q F' H' _ (Z.set ro.2) s'
end
section
variable {P:.ai}{w:World}{K:.j}{mg:.G}{base:Heap}
end
theorem nP (fg:FG)(ft:FT)(fe:FE):∀(ts:List T) (τ:az) (acc us:List T),dG fg ft fe ts τ acc=some us->gQ fg ft (uT fe) ts τ (acc.map O.val)=some .fC
 |[],_,acc,us,h=>by cases h;rfl
 |t::ts,τ,acc,us,h=>by
  unfold dG at h
  obtain⟨τ1,e1,h⟩:=bind_some h
  obtain⟨p,e2,h⟩:=bind_some h
  unfold gQ
  rw [e1,zaa,e2,zaa]
  split at h
  ·next hp =>
   obtain⟨q,e3,h⟩:=bind_some h
   rw [if_pos hp,show uT fe p.2=some (.val q.1,q.2) from by unfold uT;rw [e3];rfl,Option.bind_some]
   split at h
   ·next hq =>
    rw [if_pos ⟨hq.1,by rw [zah];exact hq.2⟩]
    have:=nP fg ft fe ts q.2 (acc++[q.1]) us h
    rw [zaP] at this
    exact this
   ·cases h
  ·next hp =>
   rw [if_neg hp]
   split at h
   ·next hq =>
    rw [if_pos hq]
    exact nP fg ft fe ts p.2 acc us h
   ·cases h
theorem xv {no:Nat}{cap:.D}{g:FA}{fg:FG}{ft:FT}{fe:FE}{τ τ':az}{us:List T}(h:bf no cap g fg ft fe τ=some (.lst us,τ')):nR no cap g fg ft (uT fe) τ=some (.lst .fC,τ'):=by
 obtain⟨p,e1,h⟩:=bind_some h
 unfold nR
 rw [e1,zaa]
 split at h
 ·next ha =>
  obtain⟨vs,e2,h⟩:=bind_some h
  cases h
  rw [if_pos ha,show gQ fg ft (uT fe) p.1 .bd []=some .fC from nP fg ft fe _ _ [] us e2]
  rfl
 ·cases h
theorem ER {no:Nat}{cap:.D}{g:FA}{fg:FG}{ft:FT}{fe:FE}{τ τ':az}{t:T}(h:bf no cap g fg ft fe τ=some (t,τ')):∃us,t=.lst us:=by
 obtain⟨p,e1,h⟩:=bind_some h
 split at h
 ·obtain⟨vs,e2,h⟩:=bind_some h
  cases h
  exact⟨_,rfl⟩
 ·cases h
section
variable {X:Cx}
theorem bQ {elt tg iter:Expr}{l:.av}{scope:Scope}{pos:Pos}{N':.U}{no:Nat}{cap:.D}{g:FA}{fg:FG}{ft:FT}{fe:FE}(hx:X.xe=fun _ _=>False)(U:.bp)(B:.gm)(J:.b6)
  (K:∀(k j:Nat),cap[k]? = some j->∃x,N'[no+k]? = some x/\X.N[j]? = some x/\(x,NameKind.free)∈scope.names) (hi:.ei)
  (L:∀C cs Y8 Y9 fp pins,SG .v tg fg) (Y:∀C cs Y8 Y9 fp pins,Ey .v l ft) (he:∀C cs Y8 Y9 fp pins,SE .v elt fe)
  (hs:∀x,foldedSetIterable iter X.env x=pure x:=by intro _;rfl):SE X .R (bf no cap g fg ft fe):=fun Y0 Y9=>PE.weak (Bp.se (A6 hx U B J K hi L Y .dL hs) Y0 Y9) fun σ H Q G=>by
 obtain⟨F,τ,t,τ',E,e1,q⟩:=G
 obtain⟨us,rfl⟩:=ER e1
 refine⟨F,τ,_,τ',E,?_,q⟩
 unfold Tw
 rw [xv e1,zaa]
 show some (T.lst (O.trs .fC),τ')=_
 rw [jK]
theorem oz {i:Nat}{y:Str}{n h:Pos}{elt tg iter:Expr}{l:.av}{scope:Scope}{pos:Pos}{N':.U}{no:Nat}{cap:.D}{g:FA}{fg:FG}{ft:FT}{fe:FE}(W:.eM)(d:X.N[i]? = some y)(R:.bN)
  (hx:X.xe=fun _ _=>False) (U:.bp) (B:.gm) (J:.b6)
  (K:∀(k j:Nat),cap[k]? = some j->∃x,N'[no+k]? = some x/\X.N[j]? = some x/\(x,NameKind.free)∈scope.names) (hi:.ei)
  (L:∀C cs Y8 Y9 fp pins,SG .v tg fg) (Y:∀C cs Y8 Y9 fp pins,Ey .v l ft) (he:∀C cs Y8 Y9 fp pins,SE .v elt fe)
  (S:swapsWith .R (.aX .f1) h.line X.env=pure true:=by rfl) (hs:∀x,foldedSetIterable iter X.env x=pure x:=by intro _;rfl):
  SS X (.bw .R) (dU i no cap g fg ft fe):=fun Y0 Y9=>PS.weak (qR i W d R hx U B J K hi L Y .dL S hs Y0 Y9) fun D σ H G=>by
 obtain⟨F,τ,r,E,e1,q⟩:=G
 obtain⟨p,e2,e1⟩:=bind_some e1
 split at e1
 ·next ha =>
  obtain⟨us,e3,e1⟩:=bind_some e1
  cases e1
  refine⟨F,τ,.lst .fC,frzAll cap p.2,E,xv (by unfold bf;rw [e2,Option.bind_some,if_pos ha,e3];rfl),fun F' H' v A Z s' ro nd h0 ap=>?_⟩
  obtain⟨f,vs,u,rfl,rfl,k1,k2,k3⟩:=ro
  obtain⟨rfl,N⟩:=cq.plain (sq us) k3
  rw [jK] at N
  exact q F' H' _ (aB.putOwn2 Z k1 k2 (h0 f zae) ap N) s'
 ·cases e1
end
section
variable {prog:.ai}{w:World}{A:Around}{E:.n}{s:Shared}
end
section
variable {X:Cx}
end
section
variable {X:Cx}
def xC:T->T->Option T
 |a,.non=>some (.bl (!DB a))
 |_,_=>none
theorem HX:lh X (compareOp .IsNot) xC:=by
 intro pins s σ H x y v u Q I N S ⟨F,a,b,t,R,m,B,e,q⟩
 unfold xC at e
 split at e
 ·cases e;cases B
  exact Km pins s σ H _ _ v u Q I N S ⟨rfl,by rw [wt m];exact q F H _ .ao rfl⟩
 ·cases e
end
noncomputable def qZ (f:Str):List Str->List T->Option T
 |n::ns,t::ts=>if f=n then some t else qZ f ns ts
 |_,_=>none
theorem Dl {K:.j}{F:Hp}{f:Str}:∀{ns:.U} {ts:List T} {vs:List V} {t:T},aM K F ts vs->qZ f ns ts=some t->∃v,(ns.zip vs).lookup f=some v/\Rep K F t v
 |[],_,_,_,_,e=>by cases e
 |n::ns,[],_,_,_,e=>by cases e
 |n::ns,t::ts,_,u,r,e=>by
  obtain⟨v,y,rfl,h1,h2⟩:=r
  unfold qZ at e
  rw [zbG,zbi]
  by_cases h:f=n
  ·rw [if_pos h] at e
   cases e
   rw [beq_iff_eq.mpr h]
   exact⟨v,rfl,h1⟩
  ·rw [if_neg h] at e
   rw [beq_eq_false_iff_ne.mpr h]
   exact Dl h2 e
theorem nU {f:Str}:∀{ns:.U} {vs:List V},f∉ns->(ns.zip vs).lookup f=none
 |[],_,_=>.f
 |n::ns,[],_=>.f
 |n::ns,v::vs,h=>by
  rw [zbG,zbi,beq_eq_false_iff_ne.mpr (show f≠n from fun z=>h (by rw [z];exact zae))]
  exact nU fun m=>h (zad _ m)
theorem AL {f:Str}{y:V}:∀{ns:.U} {vs:List V},f∉ns->vs.length=ns.length->km f y (ns.zip vs)=(ns++[f]).zip (vs++[y])
 |[],[],_,_=>rfl
 |[],_::_,_,h=>by cases h
 |_::_,[],_,h=>by cases h
 |n::ns,v::vs,h,hl=>by
  rw [List.zip_cons_cons,show km f y ((n,v)::ns.zip vs)=(if n=f then (n,y)::ns.zip vs else (n,v)::km f y (ns.zip vs)) from rfl,if_neg (show ¬ n=f from fun z=>h (by rw [z];exact List.mem_cons_self)),AL (fun m=>h (.S m)) (by simpa using hl)]
  rfl
section
variable {X:Cx}{e:Expr}{es:.av}{pos:Pos}
noncomputable def cY (b:.V)(f:Str)(fe:FE):FE:=fun τ=>(fe τ).bind fun p=>match p.1 with
 | .obj C ns ts=>if C∈b then (qZ f ns ts).bind fun t=>some (t,p.2) else none
 |_=>none
theorem cz {b:.V}{f:Str}{fe:FE}(P:∀C∈b,dE X.K C/\ba X.K C f)(he:SE X e fe)(hb:attributeBase e f X.env (.V e)=eval e X.env:=by rfl):SE X (.Attribute e f pos) (cY b f fe):=
 fun Y0 Y9=>PE.weak (MY .eB hb) fun σ H Q h=>by
  obtain⟨F,τ,t,τ',E,e1,q⟩:=h
  obtain⟨⟨x,τ1⟩,e2,e1⟩:=bind_some e1
  dsimp only at e1
  split at e1
  ·next C ns ts =>
   split at e1
   ·next hm =>
    obtain⟨u,e3,e1⟩:=bind_some e1
    cases e1
    refine⟨F,τ,_,_,E,e2,fun F1 H1 v V s1 r1=>?_⟩
    obtain⟨a,dx,vs,rfl,h1,h2,M⟩:=r1
    obtain⟨w,l1,l2⟩:=Dl M e3
    exact⟨a,C,dx,_,w,rfl,V.g.fh _ _ h1,(P C hm).1,(P C hm).2,l1,q F1 H1 w V s1 l2⟩
   ·cases e1
  ·cases e1
end
structure cN (P:.ai)(w:World)(K:.j)(mg:.G)(base:Heap)(k:Nat)(C:Addr)(m:Str)(n:Nat)(d:.Y):Prop where
 cl:dE K C
 ex:∃f fd ps,iO P w K mg base uQ k f fd ps (spT K n d)/\Binds K fd ps []/\Meth K C m f/\ps.length=n
section
variable {P:.ai}{w:World}{K:.j}{mg:.G}{base:Heap}{j k n:Nat}{C:Addr}{m:Str}
theorem cN.mono {d:.Y}(D:cN P w K mg base j C m n d)(h:j≤k):cN P w K mg base k C m n d:=by
 obtain⟨f,fd,ps,F,r⟩:=D.ex
 exact⟨D.cl,f,fd,ps,F.mono h,r⟩
theorem du {x qual:Str}{st:Stmt}{f:Addr}{fd:.e7}{N ps:.U}{fb:FS}(F:.dD)(S:.hK)(hb:.i2)(cl:dE K C)(hm:Meth K C m f)
  (h:∀(cdv:Value) (A:Around) (outer:.e6) (s:Shared) (H:Hp) (E:XK),eG k .aK->vM (sP uQ P w K mg base N qual (ax st) f cdv A outer s H E).nox (eT st) fb):
  cN P w K mg base (k+1) C m ps.length (cy N.length ps.length fb):=by
 refine⟨cl,f,fd,ps,F.ok S .ir .cJ,hb,hm,rfl⟩
 obtain⟨hl,F1,ts,t,R,r,e,q⟩:=z
 unfold cy at e
 split at e
 ·next hn =>
  obtain⟨Y,e1,e⟩:=bind_some e
  refine⟨_,h cdv A outer s H E hr F1 H,F1,_,Y,?_,e1,?_⟩
  ·have:=jD (N:=N) R r
   rw [hn] at this
   exact this
  ·cases Y with
   |rt u=>cases e;exact fun F' H' v g Y=>q F' H' v g Y
   |nx τ=>cases e;exact fun F' H' σ' Z s'=>q F' H' .non Z.g rfl
   |bk τ=>cases e
   |ct τ=>cases e
 ·cases e
end
section
variable {X:Cx}{o e:Expr}{es:.av}{pos apos:Pos}{g:FA}{fo:FE}{k n:Nat}{m:Str}
noncomputable def ny (C:Addr):List .aE->Option (List T->Option T)
 |[]=>none
 |a::r=>if C=a.1 then some a.2 else ny C r
theorem pZ {C:Addr}{d:.Y}:∀{l:List .aE},ny C l=some d->(C,d)∈l
 |[],h=>by cases h
 |a::r,h=>by
  unfold ny at h
  split at h
  ·next e=>cases h;subst e;exact zae
  ·exact zad _ (pZ h)
noncomputable def cR (alts:List .aE)(m:Str)(fo:FE)(g:FA):FE:=fun τ=>(fo τ).bind fun p=>match p.1 with
 | .obj C ns ts=>if m∈ns then none else (ny C alts).bind fun d=>(g p.2).bind fun q=>(d (.obj C ns ts::q.1)).bind fun t=>some (t,q.2)
 |_=>none
theorem Fq {alts:List .aE}{Y0 Y9:Hp}{σ:L2.St}{H:Hp}{Q:VK}(h:tE X.K Y0 Y9 (cR alts m fo g) σ H Q)(hl:∀τ ts τ',g τ=some .ib->ts.length+1=n):
  ∃C d,(C,d)∈alts/\LP C m (spT X.K n d) [] E0 (tE X.K Y0 Y9 fo) (tA X.K Y0 Y9 g) σ H Q:=by
 obtain⟨F,τ,t,τ',E,e1,q⟩:=h
 obtain⟨⟨x,τ1⟩,e2,e1⟩:=bind_some e1
 dsimp only at e1
 split at e1
 ·next C ns ts =>
  split at e1
  ·cases e1
  ·next hm =>
   obtain⟨d,e3,e1⟩:=bind_some e1
   obtain⟨⟨us,τ2⟩,e4,e1⟩:=bind_some e1
   obtain⟨u,e5,e1⟩:=bind_some e1
   cases e1
   refine⟨C,d,pZ e3,F,τ,_,τ1,E,e2,fun F1 H1 v V s1 r1=>?_⟩
   obtain⟨a,dx,vs,rfl,h1,h2,M⟩:=id r1
   refine⟨a,dx,_,rfl,V.g.fh _ _ h1,nU hm,F1,τ1,us,_,V,e4,fun F2 H2 ws O s2 r2=>?_⟩
   refine⟨by rw [zaw,zap,r2.length];exact hl _ _ _ e4,F2,.obj C ns ts::us,_,O.g.fh,⟨_,_,rfl,Rep.mono s2 r1,by rw [zaw];exact r2⟩,e5,fun F3 H3 J B r3=>?_⟩
   exact q F3 H3 J (O.grow B) ((s1.trans s2).trans B.sF) r3
 ·cases e1
theorem dZ {pl:Sem Bool}{alts:List .aE}(A:∀a∈alts,cN X.prog X.w X.K X.mg X.base k a.1 m 1 a.2)(hr:eG k X.A)(he:SE X o fo)
  (Y:eval .bG X.env=(do
   let Z <- eval o X.env
   standAt apos.atName
   let (f,first) <- holding [Z] (getMethod Z m pl)
   callWith pos f first (backTo pos .gF) (backToKw pos .cR)):=by rfl):
  SE X .bG (cR alts m fo ao):=by
 intro Y0 Y9 pins s σ H Q I h
 obtain⟨C,d,hm,h'⟩:=Fq (n:=1) h (fun τ ts τ' e=>by cases e;rfl)
 have D:=A _ hm
 obtain⟨f,fd,ps,Fk,hb,y,hn⟩:=D.ex
 refine AI (E:=E0) (CX:=uQ) .eB D.cl y Fk hr hb .nil AG Y pins s σ H Q I ?_
 obtain⟨F,τ,t,τ',E,e1,q⟩:=h'
 refine⟨F,τ,t,τ',E,e1,fun F1 H1 v V s1 r1=>?_⟩
 obtain⟨a,dx,fs,h1,h2,M,F2,τ2,us,S,O,e2,q2⟩:=q F1 H1 v V s1 r1
 cases e2
 exact⟨a,dx,fs,h1,h2,M,q2 F2 H1 [] O .dQ rfl⟩
end
abbrev uN:=List Str×List T
noncomputable def Um (K:.j)(C:Addr)(n:Nat)(d:.fb):Sp:=fun vs H Q _=>vs.length=n+1/\∃F x dx ws ts r,vs=.ref x::ws/\H x=some (.ins C dx [])/\F x=none/\aJ F H/\aM K F ts ws/\d ts=some r /\
 ∀F' H' us,aZ F (gd H [x]) F' H'->H' x=some (.ar (r.1.zip us))->F' x=none->us.length=r.1.length->aM K F' r.2 us->Q .non H'
structure iu (P:.ai)(w:World)(K:.j)(mg:.G)(base:Heap)(k:Nat)(x:Str)(C:Addr)(n:Nat)(d:.fb):Prop where
 ex:∃j f fd ps,k=j+1/\Mk K C f/\iO P w K mg base uQ j f fd ps (Um K C n d)/\Binds K fd ps []/\mg x=some (.d C)/\ps.length=n+1
theorem iu.mono {P:.ai}{w:World}{K:.j}{mg:.G}{base:Heap}{j k n:Nat}{x:Str}{C:Addr}{d:.fb}(D:iu P w K mg base j x C n d)(h:j≤k):iu P w K mg base k x C n d:=by
 obtain⟨i,f,fd,ps,a,M,F,r⟩:=D.ex
 exact⟨k-1,f,fd,ps,.d,M,F.mono .d,r⟩
section
variable {X:Cx}{e:Expr}{es:.av}{pos:Pos}{g:FA}
noncomputable def oQ (C:Addr)(d:.fb)(g:FA):FE:=fun τ=>(g τ).bind fun p=>(d p.1).bind fun r=>some (.obj C r.1 r.2,p.2)
theorem mW {k n:Nat}{x:Str}{p:Pos}{C:Addr}{d:.fb}(D:iu X.prog X.w X.K X.mg X.base k x C n d)(hr:eG k X.A)(L:Gl X x)(ha:SA X (e::es) g)(hl:∀τ ts τ',g τ=some .ib->ts.length=n)(G:.M=false:=by decide)
  (he:starEach (e::es) X.env=(.p e)::starEach es X.env:=by rfl) (l:(backTo pos .bm).any (·.1)=false:=by rfl):SE X .aP (oQ C d g):=by
 obtain⟨j,f,fd,ps,P,M,Fk,hb,hm,hn⟩:=D.ex
 subst P
 intro Y0 Y9
 refine PE.weak (Ku (E:=E0) (CX:=uQ) M Fk hr L hm hb .nil AG .bT G he l) fun σ H Q h=>?_
 obtain⟨F,τ,t,τ',E,e1,q⟩:=h
 obtain⟨⟨ts,τ1⟩,e2,e1⟩:=bind_some e1
 obtain⟨r,e3,e1⟩:=bind_some e1
 cases e1
 refine⟨F,τ,ts,_,E,e2,fun F1 H1 vs V s1 r1=>fun a dx i s ne=>?_⟩
 have fa:F1 a=none:=V.g.fh.free i
 have v:F1 dx=none:=V.g.fh.free s
 have R:aJ F1 (.O H1 a):=fun b o z=>by
  rw [ay (bg z fa),ay (bg z v)]
  exact V.g.fh b o z
 have c:aJ H1 (.O H1 a):=fun b o z=>by
  rw [ay (bg z i),ay (bg z s)]
  exact z
 refine⟨by rw [zaw,zap,r1.length,hl _ _ _ e2],F1,a,dx,vs,ts,r,by rw [zaw],aF,fa,R,r1,e3,fun F' H' us A hx u w S=>⟨rfl,?_⟩⟩
 have sF:aJ F' (upd F' a (.ar (r.1.zip us))):=cX u
 have g2:aZ F1 H1 (upd F' a (.ar (r.1.zip us))) H':=by
  refine⟨A.sF.trans sF,fun b o z=>A.sH b o ?_,fun b o z=>?_,fun b o z=>?_⟩
  ·rw [bG (fun m=>by rw [zac.mp m,i] at z;cases z)]
   exact c b o z
  ·by_cases hb:b=a
   ·rw [hb,aF] at z;cases z;rw [hb];exact hx
   ·rw [ay hb] at z;exact A.fh b o z
  ·by_cases hb:b=a
   ·exact .a1 (by rw [hb];exact i)
   ·rw [ay hb] at z
    rcases A.nw b o z with y | y
    ·exact .inl y
    ·rw [bG .hS] at y
     exact .a1 (c.free y)
 exact q _ H' (.d a) (V.grow g2) (s1.trans g2.sF) ⟨a,dx,us,rfl,aF,w,aM.mono sF S⟩
end
abbrev FI:=az->List Str->List T->Option uN
noncomputable def Ut (K:.j)(C x:Addr)(Y0 Y9:Hp)(f:FI):TS:=fun D σ H=>∃F τ ns us vs dx r,aB K Y0 Y9 F H σ τ/\bF τ=true/\τ[0]? = some (.o (.ptr x))/\H x=some (.ar (ns.zip vs))/\F x=none/\Y9 x=none/\vs.length=ns.length/\ns.length<1000/\aM K F us vs/\f τ ns us=some r /\
 ∀F' H' σ' J,aZ Y0 Y9 F' H'->H' x=some (.ar (r.1.zip J))->F' x=none->J.length=r.1.length->aM K F' r.2 J->D.nx σ' H'
def N2 (X:Cx)(C:Addr)(a:.a4)(f:.iH):Prop:=∀x Y0 Y9,lj X a (Ut X.K C x Y0 Y9 (f x))
section
variable {X:Cx}{C:Addr}{e:Expr}{rest:.a4}{pos:Pos}
def BP:Addr->FI:=fun _ _ ns us=>some (ns,us)
theorem mX:N2 X C [] BP:=fun x Y0 Y9=>lj.weak ph fun D σ H h=>by
 obtain⟨F,τ,ns,us,vs,dx,r,E,ha,h0,hx,u,a,hl,hk,S,e1,q⟩:=h
 cases e1
 exact q F H σ vs E.g hx u hl S
noncomputable def lr (f:Str)(fe:FE)(c:.iH):Addr->FI:=fun x τ ns us=>(fe τ).bind fun p=>if bF p.2=true/\¬ f∈ns/\ns.length<999 then match (p.2[0]? : Option (Option Sl)) with
 |some (.o (.ptr y))=>if y=x then c x p.2 (ns++[f]) (us++[p.1]) else none
 |_=>none else none
theorem dO {f:Str}{fe:FE}{c:.iH}{y:Str}{p1 p2:Pos}(U:dE X.K C)(hn:ba X.K C f)(R:PE X (.Name y p1) (uA 0))(he:SE X e fe)(hr:N2 X C rest c)
  (hs:swapsWith e (.aX (.Attribute (.Name y p1) f p2)) pos.line X.env=pure false:=by rfl):N2 X C (.Assign [.Attribute (.Name y p1) f p2] e pos::rest) (lr f fe c):=fun x Y0 Y9=>lj.weak (gN (Nf R he.any hs) (hr x Y0 Y9)) fun D σ H h=>by
 obtain⟨F,τ,ns,us,vs,dx,r,E,ha,h0,hx,u,a,hl,hk,S,e1,q⟩:=h
 obtain⟨⟨t,τ1⟩,e2,e1⟩:=bind_some e1
 dsimp only at e1
 split at e1
 ·next m =>
  split at e1
  ·next l i =>
   split at e1
   ·next j =>
    subst j
    refine⟨F,H,F,τ,t,τ1,E.rebase ha E.g.fh,e2,fun F1 H1 w V s1 r1=>?_⟩
    have k:=V.g.sH _ _ hx
    have d:F1 l=none:=by
     cases n:F1 l with
     |none=>rfl
     |some o =>
      rcases V.g.nw _ o n with z | z
      ·rw [u] at z;cases z
      ·rw [hx] at z;cases z
    obtain⟨v0,k1,k2⟩:=E.sl 0 _ h0
    cases (show v0=.ref l from k2)
    refine⟨_,k1,l,C,dx,_,rfl,k,U,hn,by rw [List.length_zip];omega,?_⟩
    rw [AL m.2.1 hl]
    have O:aB X.K Y0 Y9 F1 (upd H1 l (.ar ((ns++[f]).zip (vs++[w])))) σ τ1:=by
     refine V.to m.1 .dQ ⟨E.g.sF.trans V.g.sF,fun b o z=>?_,fun b o z=>?_,fun b o z=>?_⟩
     ·rw [ay (fun y=>by rw [y,a] at z;cases z)]
      exact V.g.sH _ _ (E.g.sH _ _ z)
     ·rw [ay (fun y=>by rw [y,d] at z;cases z)]
      exact V.g.fh _ _ z
     ·rcases V.g.nw b o z with y | y
      ·exact E.g.nw b o y
      ·exact .a1 (E.g.sH.free y)
    refine⟨F1,τ1,ns++[f],us++[t],vs++[w],dx,r,O,m.1,i,aF,d,a,by simp [hl],by rw [List.length_append];simp only [List.length_cons,List.length_nil];omega,(aM.mono V.g.sF S).append (.one r1),e1,q⟩
   ·cases e1
  ·cases e1
 ·cases e1
noncomputable def Fg (t:FS)(c:.iH):Addr->FI:=fun x τ ns us=>(t τ).bind fun r=>match r with
 | .nx τ1=>if bF τ1=true then match (τ1[0]? : Option (Option Sl)) with
  |some (.o (.ptr y))=>if y=x then c x τ1 ns us else none
  |_=>none else none
 |_=>none
theorem yP {st:Stmt}{t:FS}{c:.iH}(g:SS X st t)(hr:N2 X C rest c):N2 X C (st::rest) (Fg t c):=fun x Y0 Y9=>lj.weak (gN g.any (hr x Y0 Y9)) fun D σ H h=>by
 obtain⟨F,τ,ns,us,vs,dx,r,E,ha,h0,hx,u,a,hl,hk,S,e1,q⟩:=h
 obtain⟨r1,e2,e1⟩:=bind_some e1
 refine⟨F,H,F,τ,r1,E.rebase ha E.g.fh,e2,?_⟩
 cases r1 with
 |nx τ1 =>
  dsimp only at e1
  split at e1
  ·next hs =>
   split at e1
   ·next l i =>
    split at e1
    ·next j =>
     subst j
     refine fun F1 H1 w V s1=>?_
     have k:=V.g.sH _ _ hx
     have d:F1 l=none:=by
      cases n:F1 l with
      |none=>rfl
      |some o =>
       rcases V.g.nw _ o n with z | z
       ·rw [u] at z;cases z
       ·rw [hx] at z;cases z
     exact⟨F1,τ1,ns,us,vs,dx,r,V.back hs E.g,hs,i,k,d,a,hl,hk,aM.mono V.g.sF S,e1,q⟩
    ·cases e1
   ·cases e1
  ·cases e1
 |rt t=>cases e1
 |bk t=>cases e1
 |ct t=>cases e1
end
noncomputable def Jw (m n:Nat)(fb:.iH)(ts:List T)(r:uN):Prop:=ts.length=n/\∀x:Addr,fb x ('0' (.ptr x)::(.y (m-(n+1)))) [] []=some r
open Classical in
noncomputable def dI (m n:Nat)(fb:.iH):List T->Option uN:=fun ts=>if h:∃r,Jw m n fb ts r then some h.choose else none
theorem wa {m n:Nat}{fb:.iH}{ts:List T}{r:uN}(h:Jw m n fb ts r):dI m n fb ts=some r:=by
 unfold dI
 have P:∃r,Jw m n fb ts r:=⟨r,h⟩
 rw [dif_pos P]
 have h1:=P.choose_spec.2 0
 rw [h.2 0] at h1
 exact h1.symm
theorem Mb {m n:Nat}{fb:.iH}{ts:List T}{r:uN}(h:dI m n fb ts=some r):Jw m n fb ts r:=by
 unfold dI at h
 split at h
 ·next P=>cases h;exact P.choose_spec
 ·cases h
theorem pT:∀(ts:List T) (j:Nat),bF (ts.map (fun t=>some (Sl.sh t))++List.replicate j none)=true
 |[],0=>rfl
 |[],j+1=>by rw [zaH];exact pT [] j
 |t::ts,j=>pT ts j
theorem mS {P:.ai}{w:World}{K:.j}{mg:.G}{base:Heap}{k n:Nat}{x o:Str}{C:Addr}{qual:Str}{st:Stmt}{f:Addr}{fd:.e7}{N ps:.U}{fb:.iH}(F:.dD)(S:.hK)(hb:.i2)(M:Mk K C f)(hm:.fG)(hn:ps.length=n+1)
  (h:∀(cdv:Value) (A:Around) (outer:.e6) (s:Shared) (H:Hp) (E:XK),eG k .aK->N2 (sP uQ P w K mg base N qual (ax st) f cdv A outer s H E).nox C (eT st) fb):
  iu P w K mg base (k+2) o C n (dI N.length n fb):=by
 refine⟨k+1,f,fd,ps,rfl,M,F.ok S (fun vs H Q E z=>by rw [hn];exact z.1) .cJ,hb,hm,hn⟩
 obtain⟨hl,F1,a,dx,ws,ts,r,rfl,hx,u,R,d,e,q⟩:=z
 obtain⟨hlen,hf⟩:=Mb e
 refine⟨_,h cdv A outer s H E hr a F1 (gd H [a]),?_⟩
 have r1:aM K F1 (.ptr a::ts) (.ref a::ws):=⟨_,_,rfl,rfl,d⟩
 have E0:=jD (N:=N) R r1
 have g:bF ((T.ptr a::ts).map (fun t=>some (Sl.sh t))++List.replicate (N.length-(T.ptr a::ts).length) none)=true:=pT _ _
 have c:aZ F1 (gd H [a]) F1 H:=⟨aJ.refl _,wb,R,fun _ _ z=>.inl z⟩
 have V:=E0.to g .dQ c
 refine⟨F1,_,[],[],[],dx,r,V,g,rfl,hx,u,gH zae,rfl,.e,rfl,?_,fun F' H' σ' J g' h1 h2 b D=>q F' H' J g' h1 h2 b D⟩
 have:=hf a
 rw [<- hlen] at this
 exact this
structure dQ (K:.j)(Ct C:Addr)(b:Bool):Prop where
 cl:dE K C
 ha:PySem.W.findIn K (.d C) "__class__" = some (.aX .cZ)
 hn:PySem.W.specialIn K .cZ "__get__" = some (.aX (.builtin "getset_descriptor.__get__"))
 htk:PySem.W.takesIn K .cZ=some true
 hm:PySem.W.mroIn K C (.type "object")=some true
 kit:PySem.W.kitOne K (.d C) (.d Ct)=some b
noncomputable def findB (C:Addr):List .b2->Option Bool
 |[]=>none
 |a::r=>if C=a.1 then some a.2 else findB C r
theorem jE {C:Addr}{d:Bool}:∀{l:List .b2},findB C l=some d->(C,d)∈l
 |[],h=>by cases h
 |a::r,h=>by
  unfold findB at h
  split at h
  ·next e=>cases h;subst e;exact zae
  ·exact zad _ (jE h)
section
variable {X:Cx}{e:Expr}{pos:Pos}
theorem EG {Ct:Addr}:fR X .d6 (fun xs H Q=>∃a C dx fs b,xs=[.ref a,.ref Ct]/\H a=some (.ar fs)/\dQ X.K Ct C b/\Q .f0 H):=by
 intro pins s σ H xs us Q I r h
 obtain⟨a,C,dx,fs,b,rfl,R,ok,q⟩:=h
 obtain⟨L,S,rfl,m,B⟩:=Vals.two r
 cases (show S=Value.ref Ct from B)
 exact Fl I m (.ins R ok.cl ok.ha ok.hn ok.htk ok.hm) ok.kit fun tk=>⟨.bl b,H,I.tok tk,rfl,q⟩
noncomputable def cK (tbl:List .b2)(fe:FE):FE:=fun τ=>(fe τ).bind fun p=>match p.1 with
 | .obj C _ _=>(findB C tbl).bind fun b=>some (.bl b,p.2)
 |_=>none
theorem dN {Ct:Addr}{x:Str}{p d:Pos}{fe:FE}{tbl:List .b2}(Y:∀a∈tbl,dQ X.K Ct a.1 a.2)(L:Gl X "isinstance")(hm:X.mg "isinstance" = none)(c:Gl X x)(f:X.mg x=some (.d Ct))(he:SE X e fe)
  (hs:starEach [e,.Name x p] X.env=(.p e)::starEach [.Name x p] X.env:=by rfl) (T:starEach [.Name x p] X.env=(.p (.af p))::starEach [] X.env:=by rfl) (l:(backTo pos (starEach [.Name x p] X.env)).any (·.1)=false:=by rfl) (g:.M=false:=by decide):
  SE X (.Call (.Name "isinstance" d) [e,.Name x p] [] pos) (cK tbl fe):=fun Y0 Y9 =>
 PE.weak (AH EG L hm (show bootBuiltins "isinstance" = some .d6 from rfl) (kl .eB (kl (rQ (v:=.ref Ct) c f rfl g) ue T) hs) .e .e hs l) fun σ H Q h=>by
  obtain⟨F,τ,t,τ',E,e1,q⟩:=h
  obtain⟨⟨y,τ1⟩,e2,e1⟩:=bind_some e1
  dsimp only at e1
  split at e1
  ·next C ns ts =>
   obtain⟨b,e3,e1⟩:=bind_some e1
   cases e1
   refine⟨F,τ,_,_,E,e2,fun F1 H1 v V s1 r1=>?_⟩
   obtain⟨a,dx,vs,rfl,h1,h2,M⟩:=r1
   exact⟨a,C,dx,_,b,rfl,V.g.fh _ _ h1,Y _ (jE e3),q F1 H1 _ V s1 rfl⟩
  ·cases e1
end
section
variable {X:Cx}{e:Expr}{pos:Pos}{f:FE}
end
section
variable {K:.j}{Y0 Y9 F H F' H':Hp}{σ σ':L2.St}{τ τ':az}{x:Nat}{p:Addr}{tss:List (List T)}{A:.V}
end
noncomputable def fW (x:Nat)(p:Addr)(τ:az):Bool:=match τ[x]? with
 |some (.o (.ptr q))=>Nat.beq q p
 |_=>false
theorem eJ {x:Nat}{p:Addr}{τ:az}(h:fW x p τ=true):τ[x]? = some .eJ:=by
 unfold fW at h
 split at h
 ·next q e=>rw [e,Nat.eq_of_beq_eq_true h]
 ·cases h
theorem SG.any {X:Cx}{tg:Expr}{g:FG}(h:SG X tg g):PG X tg (fun v σ H Q=>∃Y0 Y9,tG X.K Y0 Y9 g v σ H Q):=fun pins s σ H v u Q I r .g8=>h Y0 Y9 pins s σ H v u Q I r q
section
variable {X:Cx}{e:Expr}{pos:Pos}{x:Nat}
end
section
variable {K:.j}{Y0 Y9 F H F' H':Hp}{σ σ':L2.St}{τ τ':az}{x:Nat}{p:Addr}{tss:List (List T)}{A:.V}
theorem jY (N:∀a∈A,F a=none)(g:aZ .d9 H F' H'):aZ F H (gd F' A) H':=by
 refine⟨fun b u e=>?_,g.sH,fun b u e=>?_,fun b u e=>?_⟩
 ·have m:b∉A:=fun m=>by rw [N b m] at e;cases e
  rw [bG m]
  exact g.sF b u (by rw [cH m];exact e)
 ·by_cases m:b∈A
  ·rw [gH m] at e;cases e
  ·rw [bG m] at e;exact g.fh b u e
 ·by_cases m:b∈A
  ·rw [gH m] at e;cases e
  ·rw [bG m] at e
   rcases g.nw b u e with z | z
   ·rw [cH m] at z;exact .inl z
   ·exact .inr z
end
section
variable {X:Cx}{e:Expr}{pos:Pos}{x:Nat}
end
section
variable {X:Cx}{e:Expr}{pos:Pos}
end
section
variable {X:Cx}{e:Expr}{pos:Pos}
end
section
variable {X:Cx}{e:Expr}{pos:Pos}{x:Nat}
end
section
variable {X:Cx}{i j:Nat}
end
section
variable {X:Cx}
end
section
variable {X:Cx}{a b c:Expr}{fa fb fc:FE}{pos:Pos}
noncomputable def gT (g g':.cX)(fa fb fc:FE):FE:=fun τ=>(fa τ).bind fun p=>(fb p.2).bind fun q=>(g p.1 q.1).bind fun z=>match z with
 | .bl true=>(fc q.2).bind fun r=>(g' q.1 r.1).bind fun t=>some (t,r.2)
 | .bl false=>some (.bl false,q.2)
 |_=>none
theorem sG {g g':.cX}{K:.j}{Y0 Y9:Hp}{σ:L2.St}{H:Hp}{Q:VK}(h:tE K Y0 Y9 (gT g g' fa fb fc) σ H Q):CA (Nn K g) (Nn K g') (tE K Y0 Y9 fa) (tE K Y0 Y9 fb) (tE K Y0 Y9 fc) σ H Q:=by
 obtain⟨F,τ,t,τ',E,e1,q⟩:=h
 obtain⟨⟨x,τ1⟩,e2,e1⟩:=bind_some e1
 obtain⟨⟨y,τ2⟩,e3,e1⟩:=bind_some e1
 obtain⟨z,e4,e1⟩:=bind_some e1
 refine⟨F,τ,x,τ1,E,e2,fun F1 H1 l V s1 r1=>⟨F1,τ1,y,τ2,V,e3,fun F2 H2 i O s2 r2=>⟨F2,x,y,z,O.g.fh,r1.mono s2,r2,e4,fun F3 H3 J B r3=>?_⟩⟩⟩
 dsimp only at e1
 split at e1
 ·obtain⟨⟨w,S⟩,e5,e1⟩:=bind_some e1
  obtain⟨t',u,e1⟩:=bind_some e1
  cases e1
  refine⟨true,r3,?_⟩
  rw [if_pos rfl]
  exact⟨F3,τ2,w,_,O.grow B,e5,fun I R f p P r4=>⟨I,y,w,_,p.g.fh,(r2.mono B.sF).mono P,r4,u,fun d C e L r5=>q d C e (p.grow L) (((s1.trans s2).trans B.sF).trans (P.trans L.sF)) r5⟩⟩
 ·cases e1
  refine⟨false,r3,?_⟩
  rw [if_neg .e]
  exact q F3 H3 _ (O.grow B) ((s1.trans s2).trans B.sF) rfl
 ·cases e1
theorem A3 {i l:CmpOp}{g g':.cX}(ho:lh X (.ag i) g)(f:lh X (.ag l) g')(ha:.gB)(hb:SE X b fb)(U:SE X c fc)(hm:lastMarks [i,l] [b,c]=false:=by with_unfolding_all rfl):SE X .fN (gT g g' fa fb fc):=
 fun Y0 Y9=>PE.weak (Il ho f .bT .c4 (U Y0 Y9) hm) fun _ _ _=>sG
theorem IS {i l:CmpOp}{g g':.cX}(ho:lh X (.ag i) g)(f:lh X (.ag l) g')(ha:.gB)(hb:SE X b fb)(U:SE X c fc)(hm:lastMarks [i,l] [b,c]=false:=by with_unfolding_all rfl):ST X .fN (bR (gT g g' fa fb fc)):=
 fun Y0 Y9=>PT.weak (IB ho f .bT .c4 (U Y0 Y9) hm) fun σ H Q G=>by
  obtain⟨F,τ,k,τ',E,e1,q⟩:=G
  obtain⟨⟨x,τ1⟩,e2,e1⟩:=bind_some e1
  dsimp only at e1
  split at e1
  ·cases e1
   refine sG (Q:=fun x H'=>∃k,x=V.bl k/\Q k H') ⟨F,τ,_,_,E,e2,fun F' H' v Z s' Y=>?_⟩
   exact⟨k,Y,q F' H' Z s'⟩
  ·cases e1
end
structure QM (K:.j)(Y0 Y9 F H:Hp)(σ:L2.St)(τ:az)(A:.V):Prop where
 E:aB K Y0 Y9 F H σ τ
 lies:∀a∈A,F a=none/\∃vs,H a=some .bn
 h0:∀a∈A,Y9 a=none
 ap:Apart σ τ A
section
variable {K:.j}{Y0 Y9 F H F' H':Hp}{σ σ':L2.St}{τ τ':az}{A:.V}
theorem QM.upd (D:QM K Y0 Y9 F H σ τ A){a:Addr}(ha:a∈A)(ws:List V):QM K Y0 Y9 F (L2.upd H a (.lst ws)) σ τ A:=by
 refine⟨(.bm ⟨D.E.g.sF,fun b u e=>?_,fun b u e=>?_,D.E.g.nw⟩),fun b hb=>⟨(D.lies b hb).1,?_⟩,D.h0,D.ap⟩
 ·rw [ay (fun z=>by rw [z,D.h0 a ha] at e;cases e)];exact D.E.g.sH _ _ e
 ·rw [ay (fun z=>by rw [z,(D.lies a ha).1] at e;cases e)];exact D.E.g.fh _ _ e
 ·obtain⟨v,h1,h2⟩:=D.E.sl i s e
  refine⟨v,h1,?_⟩
  cases s with
  |sh t=>exact h2
  |own ts =>
   obtain⟨q,vs,rfl,k1,k2,k3,N⟩:=h2
   exact⟨q,vs,rfl,by rw [ay (show q≠a from fun z=>D.ap i ts q e h1 (by rw [z];exact ha))];exact k1,k2,k3,N⟩
 ·by_cases h:b=a
  ·subst h;exact⟨ws,by simp [L2.upd]⟩
  ·rw [ay h];exact (D.lies b hb).2
end
section
variable {X:Cx}{r t x:Nat}{rn tn xn:Str}{p1 p2 p3 p4 p5 p6 pos:Pos}
end
section
variable {K:.j}{Y0 Y9 F H F' H':Hp}{σ σ':L2.St}{τ τ':az}{A:.V}{x:Nat}{o:O}{v:V}
theorem Hy (E:.aw)(r:fF K F H o v A)(Z:σ[x]? = some .cY):aB K .d9 H .d9 H σ ((hide τ).set x (.aX (.sh o.tr))):=by
 have sF:aJ F .d9:=eg fun a ha=>(r.at a ha).1
 have sH:aJ .d9 H:=fun b u C=>by
  by_cases m:b∈A
  ·rw [fA m] at C;exact C
  ·rw [cH m] at C;exact E.g.fh b u C
 have c:Rep K .d9 o.tr v:=r.frz
 have all:∀{j:Nat} {s:Sl},((hide τ).set x (.aX (.sh o.tr)))[j]? = some (.aX s)->(∃t,s=.sh t)/\∃v,σ[j]? = some .cY/\zq K H .d9 H s v:=fun {j s} e=>by
  by_cases P:x=j
  ·subst P
   by_cases hl:x<(hide τ).length
   ·rw [zak hl] at e;cases e
    exact⟨.ag,_,Z,c⟩
   ·rw [List.getElem?_eq_none .i] at e;cases e
  ·rw [zal P] at e
   obtain⟨e1,t,rfl⟩:=jG e
   obtain⟨w,k1,k2⟩:=E.sl j _ e1
   exact⟨⟨t,rfl⟩,w,k1,Rep.mono sF k2⟩
 refine⟨aZ.refl sH,by simp [fN,E.len],fun j s e=>(all e).2,fun j k ts ws p _ e1=>?_⟩
 obtain⟨t,z⟩:=(all e1).1
 cases z
end
section
variable {X:Cx}{r t x:Nat}{rn tn xn:Str}{p1 p2 p3 p4 p5 p6 pos q1 q2 q3 q4 q5 q6 pos':Pos}
end
structure m9 (K:.j)(Y0 Y9 F H:Hp)(σ:L2.St)(τ:az)(x:Nat)(p:Addr)(os:List O)(A:.V):Prop where
 E:aB K Y0 Y9 F H σ τ
 hx:τ[x]? = some .eJ
 r:fF K F H (.lst os) (.d p) A
 nd:A.Nodup
 h0:∀a∈A,Y9 a=none
 ap:Apart σ τ A
section
variable {K:.j}{Y0 Y9 F H F' H':Hp}{σ σ':L2.St}{τ τ':az}{x:Nat}{p:Addr}{os:List O}{A:.V}
theorem m9.lies (D:.aW){a:Addr}(ha:a∈A):F a=none/\∃vs,H a=some .bn:=D.r.at a ha
theorem m9.lend (D:.aW):aB K Y0 (frzO Y9 H A) F H σ τ:=by
 refine⟨⟨D.E.g.sF,fun a o e=>?_,D.E.g.fh,fun a o e=>?_⟩,D.E.len,fun i s e=>?_,D.E.dj⟩
 ·by_cases m:a∈A
  ·rw [fA m] at e;exact e
  ·rw [cH m] at e;exact D.E.g.sH _ _ e
 ·have m:a∉A:=fun m=>by rw [(D.lies m).1] at e;cases e
  rcases D.E.g.nw a o e with z | z
  ·exact .inl z
  ·exact .a1 (by rw [cH m];exact z)
 ·obtain⟨v,h1,h2⟩:=D.E.sl i s e
  refine⟨v,h1,?_⟩
  cases s with
  |sh t=>exact h2
  |own ts =>
   obtain⟨q,vs,rfl,k1,k2,k3,N⟩:=h2
   exact⟨q,vs,rfl,k1,k2,by rw [cH (D.ap i ts q e h1)];exact k3,N⟩
theorem m9.back (D:.aW)(Z:aB K Y0 (frzO Y9 H A) F' H' σ' τ')(s:aJ F F')(hx:τ'[x]? = some .eJ):m9 K Y0 Y9 F' H' σ' τ' x p os A:=by
 have out:∀{a:Addr},frzO Y9 H A a=none->a∉A/\Y9 a=none:=fun {a} e=>by
  have m:a∉A:=fun m=>by
   obtain⟨vs,k⟩:=(D.lies m).2
   rw [fA m,k] at e;cases e
  exact⟨m,by rw [cH m] at e;exact e⟩
 refine⟨⟨⟨Z.g.sF,fun a o e=>?_,Z.g.fh,fun a o e=>?_⟩,Z.len,fun i s e=>?_,Z.dj⟩,hx,fF.move s (fun a ha=>?_) D.r,D.nd,D.h0,fun j us q e1 e2=>?_⟩
 ·have m:a∉A:=fun m=>by rw [D.h0 a m] at e;cases e
  exact Z.g.sH _ _ (by rw [cH m];exact e)
 ·rcases Z.g.nw a o e with z | z
  ·exact .inl z
  ·exact .inr (out z).2
 ·obtain⟨v,h1,h2⟩:=Z.sl i s e
  refine⟨v,h1,?_⟩
  cases s with
  |sh t=>exact h2
  |own ts =>
   obtain⟨q,vs,rfl,k1,k2,k3,N⟩:=h2
   exact⟨q,vs,rfl,k1,k2,(out k3).2,N⟩
 ·obtain⟨f1,vs,f2⟩:=D.lies ha
  refine⟨by rw [f2];exact Z.g.sH _ _ (by rw [fA ha];exact f2),?_⟩
  cases n:F' a with
  |none=>rfl
  |some o =>
   rcases Z.g.nw a o n with z | z
   ·rw [D.E.g.sF _ _ z] at f1;cases f1
   ·exact absurd ha (out z).1
 ·obtain⟨v,h1,G,vs,rfl,k1,k2,k3,N⟩:=Z.sl j _ e1
  rw [e2] at h1;cases h1
  exact (out k3).1
theorem m9.grow (D:.aW)(g:aZ F H F' H'):m9 K Y0 Y9 F' H' σ τ x p os A:=⟨D.E.grow g,D.hx,D.r.over g,D.nd,D.h0,D.ap⟩
theorem m9.get (D:.aW):σ[x]? = Option.some (Option.some (.d p)):=by
 obtain⟨v,h1,h2⟩:=D.E.sl x _ D.hx
 have:v=.ref p:=h2
 rw [h1,this]
end
section
variable {X:Cx}{e:Expr}{pos:Pos}{x:Nat}
theorem ST.any' {c:Expr}{tc:FT}(t:ST X c tc):PT X c (fun σ H Q=>∃Y0 Y9,tT X.K Y0 Y9 tc σ H Q):=fun pins s σ H Q I .g8=>t Y0 Y9 pins s σ H Q I q
theorem m9.test {K:.j}{Y0 Y9 F H:Hp}{σ:L2.St}{τ:az}{p:Addr}{os:List O}{A:.V}{tc:FT}{b:Bool}{τ':az}{Q:Bool->Hp->Prop}(d:.aW)(e:tc ((hide τ).set x (.o (.lst (O.trs os))))=some (b,τ'))
  (q:∀F' H',m9 K Y0 Y9 F' H' σ τ x p os A->aJ F F'->Q b H'):∃Y0 Y9,tT K Y0 Y9 tc σ H Q:=by
 refine⟨_,_,_,_,b,τ',Hy d.E d.r d.get,by rw [O.tr];exact e,fun F2 H2 h s2=>?_⟩
 have g':=jY (fun a ha=>(d.r.at a ha).1) h.g
 exact q _ H2 (d.grow g') g'.sF
end
section
variable {X:Cx}{e:Expr}{pos:Pos}
end
section
variable {X:Cx}{e:Expr}{pos:Pos}
end
section
variable {P:.ai}{w:World}{K:.j}{mg:.G}{base:Heap}{j k n:Nat}{C:Addr}{m:Str}
end
section
variable {X:Cx}{o e:Expr}{pos apos:Pos}{fo:FE}{k n:Nat}{m:Str}
end
section
variable {X:Cx}{x y:Nat}{e:Expr}{pos:Pos}
end
section
variable {K:.j}{Y0 Y9 F H F' H':Hp}{σ σ':L2.St}{τ τ':az}{A:.V}{o:O}{v:V}
end
section
variable {X:Cx}{x y:Nat}{e:Expr}{pos:Pos}
end
section
variable {X:Cx}{es:.av}{pos:Pos}
noncomputable def R0 (K:.j)(n:Nat)(t:Jj):TG:=fun v σ H Q=>∃a xs,v=.ref a/\gE K H a xs/\xs.length=n/\t xs σ H Q
theorem M9 {k:Nat}{t:Jj}{n:Nat}(U:.bp)(h:N1 X es t)
  (hn:(assignEach es X.env).length=n:=by rfl) (g:(assignEach es X.env).findIdx? (·.1)=none:=by rfl):PG X .gf (R0 X.K n t):=by
 intro pins s σ H v u Q I r B
 obtain⟨a,xs,e1,hq,hl,B⟩:=B
 subst e1
 cases r
 obtain⟨G,f,Y,hz⟩:=I.list hq
 rw [assign_Tuple]
 refine .iK
 unfold unpack
 rw [g,show (assignEach es X.env).length=G.toArray.size by simp [hn,<- hl,f.length]]
 refine .f (wpAny_holding (PySem.W.kun_itemsOf .dk Y.isList fun h' hx=>?_))
 have O:.bo:=I.kept (t':=s.toks) fun b o e=>hx b o (zas .aJ) e
 exact h pins _ σ H xs _ Q O (by simpa using f) B
def Lw (d:.bH):FG:=fun t τ=>match t with
 | .lst ts=>d ts τ
 |_=>none
theorem Nv {d:.bH}{k:Nat}{n:Nat}(U:.bp)(h:LW X es d)(hl:∀ts τ τ',d ts τ=some τ'->ts.length=n)
  (hn:(assignEach es X.env).length=n:=by rfl) (g:(assignEach es X.env).findIdx? (·.1)=none:=by rfl):SG X .gf (Lw d):=
 fun Y0 Y9 pins s σ H v u Q I r h'=>M9 U .cT hn g pins s σ H v u Q I r (by
  obtain⟨F,τ,t,τ',E,rt,e1,q⟩:=h'
  unfold Lw at e1
  split at e1
  ·next ts =>
   obtain⟨p,xs,rfl,h1,h2⟩:=rt
   exact⟨p,xs,rfl,gE.of (E.g.fh _ _ h1),by rw [h2.length];exact hl _ _ _ e1,F,τ,ts,τ',E,h2,e1,q⟩
  ·cases e1)
end
structure XI where
 C:Addr
 ns:List Str
 ts:List T
abbrev FX:=az->Option (XI×az)
noncomputable def Li (K:.j)(Y0 Y9 F:Hp)(od:.dr)(c:XI):Prop:=(c.ns=[]/\c.ts=[]/\od=none)\/∃d us,od=some d/\F d=some (.xd (c.ns.zip us))/\us.length=c.ns.length/\aM K F c.ts us/\∀p,V.ref p∈us->Y0 p=none/\Y9 p=none
noncomputable def RS (b:Bool)(X:Cx)(pins:.s)(Y0 Y9 F:Hp)(c:XI)(τ':az)(e:Value)(s':Shared):Prop:=
 ∃σ' F' H' od,((b=true/\Made X pins σ' H' c.C od e s')\/Ou X pins σ' H' c.C od e s')/\aB X.K Y0 Y9 F' H' σ' τ'/\aJ F F'/\Li X.K Y0 Y9 F' od c
noncomputable def Tt (b:Bool)(X:Cx)(a:.a4)(u:FX):Prop:=∀Y0 Y9 pins s σ H F τ C τ',Inv X pins σ H s->aB X.K Y0 Y9 F H σ τ->u τ=some (C,τ')->wpAny .o X.A (execs a X.env) .aI (RS b X pins Y0 Y9 F C τ') s
section
variable {P:.ai}{w:World}{K:.j}{mg:.G}{base:Heap}{j k n:Nat}{x:Str}{C:Addr}{dx:List T->Option XI}
end
section
variable {X:Cx}{e:Expr}{es:.av}{pos:Pos}{g:FA}{b:Bool}
def OT:FX:=fun _=>none
theorem NI {a:.a4}:Tt b X a OT:=fun Y0 Y9 pins s σ H F τ C τ' I E e1=>by cases e1
end
section
variable {X:Cx}{e:Expr}{pos:Pos}{g:FA}
end
section
variable {P:.ai}{w:World}{K:.j}{mg:.G}{base:Heap}
end
abbrev Lf:=XI->az->Option R
noncomputable def QN (X:Cx)(hs:List ExceptHandler)(fh:Lf):Prop:=∀Y0 Y9 pins s5 σ H F τ c od a r Dn E,pR X pins σ H c.C od a s5->aB X.K Y0 Y9 F H σ τ->Li X.K Y0 Y9 F od c->fh c τ=some r->jf X.K Y0 Y9 F Dn r ->
 wpAny .o X.A (.aS hs) .ie E s5
structure Bq (K:.j)(D:Addr)(tbl:List .b2):Prop where
 cls:∃bD iD,lH K D bD iD/\bD.contains .fo=true
 all:∀a∈tbl,∃bC iC,lH K a.1 bC iC/\(Value.ref a.1::bC).contains (.d D)=a.2
noncomputable def GP (fb:FS)(u:FX)(fh:Lf):FS:=fun τ=>match fb τ with
 |some r=>some r
 |none=>(u τ).bind fun p=>fh p.1 p.2
def Ls:Lf:=fun _ _=>none
noncomputable def Dk (tbl:List .b2)(fh:FS)(more:Lf):Lf:=fun c τ=>(findB c.C tbl).bind fun b=>if b=true then fh τ else more c τ
section
variable {X:Cx}{pos:Pos}
theorem Nx:QN X [] Ls:=fun Y0 Y9 pins s5 σ H F τ c od a r Dn E z V y e q=>by cases e
theorem He {K:.j}{Y0 Y9 F H:Hp}{σ:L2.St}{τ:az}{a:Addr}{φ:Heap->Prop}(O:.aw)(i:H a=none):aZ F H (upd F a (.ext φ)) (.Y a (.ext φ)):=by
 have b:F a=none:=O.g.fh.free i
 exact⟨fun c o e=>by rw [ay (bg e b)];exact e,fun c o e=>by rw [ay (bg e i)];exact e,fun c o e=>by
  by_cases U:c=a
  ·rw [U] at e ⊢
   rw [aF] at e ⊢
   exact e
  ·rw [ay U] at e ⊢
   exact O.g.fh _ _ e,fun c o e=>by
  by_cases U:c=a
  ·exact .a1 (by rw [U];exact i)
  ·rw [ay U] at e
   exact .inl e⟩
theorem IK {suite:.a4}{Y6:Stmt}{x:Str}{np d:Pos}{D:Addr}{tbl:List .b2}{fh:FS}{more:Lf}{hs:List ExceptHandler}
  (L:Gl X x) (hm:X.mg x=some (.d D)) (tk:Bq X.K D tbl) (P:∀a,vM (X.inS (.d a)) (Y6::suite) fh) (hr:QN X hs more) (G:.M=false:=by decide):
  QN X (.ExceptHandler (.aX (.af np)) none (Y6::suite) d::hs) (Dk tbl fh more):=by
 intro Y0 Y9 pins s5 σ H F τ c od a r Dn E z V y e q
 obtain⟨bD,iD,t,l⟩:=tk.cls
 obtain⟨b,e1,e⟩:=bind_some e
 obtain⟨bC,iC,o,f⟩:=tk.all _ (jE e1)
 cases b with
 |false =>
  rw [if_neg zaL] at e
  exact Fd z o t l f L hm (hr Y0 Y9 pins s5 σ H F τ c od a r Dn E z V y e q) G
 |true =>
  rw [if_pos rfl] at e
  refine BN z o t l f L hm (fun s2 i M=>?_) G
  have A:=He (φ:=oC a c.C od) V i
  exact P a Y0 Y9 pins s2 _ _ Dn M ⟨_,_,r,V.grow A,e,q.mono A.sF⟩
theorem NH {body:.a4}{h0:ExceptHandler}{hs:List ExceptHandler}{fb:FS}{u:FX}{fh:Lf}(hx:∀e s,X.xe e s->False)(g:X.stack=X.env::X.outer)(hf:X.env.frame=some X.env.locals)
  (hb:vM X body fb) (b:Tt false X body u) (P:QN X (h0::hs) fh):SS X (.Try body (h0::hs) [] [] pos) (GP fb u fh):=by
 intro Y0 Y9 pins s σ H Dn I z
 obtain⟨F,τ,r,E,e1,q⟩:=z
 unfold GP at e1
 split at e1
 ·next Y C =>
  cases e1
  refine wpAny_Try_except (wpAny_mono (hb Y0 Y9 pins s σ H Dn I ⟨F,τ,_,E,C,q⟩) (fun f s1 z=>?_) fun e s z=>False.elim (hx e s z))
  cases f with
  |next =>
   obtain⟨σ',H',j,z⟩:=z
   exact ph pins s1 σ' H' Dn j z
  |ret v=>exact z
  |brk=>exact z
  |cont=>exact z
 ·obtain⟨⟨c,τ1⟩,ex,e1⟩:=bind_some e1
  refine wpAny_Try_except (wpAny_mono (b Y0 Y9 pins s σ H F τ c τ1 I E ex) (fun _ _ z=>z.elim) fun h s1 z=>?_)
  obtain⟨σ',F',H',od,z,O,sF,y⟩:=z
  rcases z with ⟨z,_⟩ | z
  ·cases z
  exact Bw g hf z fun a s5 R d=>P Y0 Y9 pins s5 σ' H' F' τ1 c od a r Dn _ d O y e1 (q.mono sF)
end
section
variable {X:Cx}{e:Expr}{pos:Pos}
end
section
variable {X:Cx}{e:Expr}{pos:Pos}
end
section
variable {X:Cx}{es:.av}{pos:Pos}
def Dv (d:.bH):FG:=fun t τ=>match t with
 | .lst ts=>d ts τ
 | .tup ts=>d ts τ
 |_=>none
theorem Nw {d:.bH}{k:Nat}{n:Nat}(U:.bp)(h:LW X es d)(hl:∀ts τ τ',d ts τ=some τ'->ts.length=n)
  (hn:(assignEach es X.env).length=n:=by rfl) (g:(assignEach es X.env).findIdx? (·.1)=none:=by rfl):SG X .gf (Dv d):=by
 intro Y0 Y9 pins s σ H v u Q I r h'
 obtain⟨F,τ,t,τ',E,rt,e1,q⟩:=h'
 cases t with
 |lst ts=>exact Nv U h hl hn g Y0 Y9 pins s σ H v u Q I r ⟨F,τ,.lst ts,τ',E,rt,e1,q⟩
 |tup ts=>exact ff U h hl hn g Y0 Y9 pins s σ H v u Q I r ⟨F,τ,.tup ts,τ',E,rt,e1,q⟩
 |_=>cases e1
end
noncomputable def Lk (K:.j)(C:Addr)(bm:.S)(ini:.dJ):Bool:=match K.lookup C with
 | some ⟨.type t,_,.cls ⟨_,_,mro,N,_,_,_,_,_,_,hd⟩,⟨[_,_,_,_,some (.builtin a),_]⟩⟩=>t == "type"&&decide (mro=.ref C::bm)&&!hd&&a == "ValueError.__new__"&&(match K.lookup N with
  |some ⟨_,_,.dict es _,_⟩=>es.all (fun e=>match e.key with | .str _ _=>true | _=>false)&&decide (nsFind es "__init__" = ini)
  | _=>false)
 |_=>false
theorem lH.of {K:.j}{C:Addr}{bm:.S}{ini:.dJ}(h:Lk K C bm ini=true):lH K C bm ini:=by
 unfold Lk at h
 split at h
 ·next t dd nm bs b N q hdct sn sub ab col hd k0 k1 k2 k3 a k5 e1 =>
  simp only [Bool.and_eq_true,beq_iff_eq,decide_eq_true_eq,Bool.not_eq_true'] at h
  obtain⟨⟨⟨⟨rfl,rfl⟩,rfl⟩,rfl⟩,h⟩:=h
  split at h
  ·next c d es ep sl e2 =>
   simp only [Bool.and_eq_true,decide_eq_true_eq] at h
   exact⟨N,nm,q,bs,hdct,sn,sub,ab,col,_,k0,k1,k2,k3,k5,_,es,ep,e1,e2,rfl,h.1,h.2⟩
  ·cases h
 ·cases h
section
variable {X:Cx}{r t:Nat}{rn tn:Str}{p1 p2 p3 p4 p5 p6 pos q1 q3 q4 q5 q6 pos':Pos}
end
section
variable {K:.j}{Y0 Y9 F H:Hp}{σ:L2.St}{τ:az}{A:.V}
end
section
variable {X:Cx}{t x:Nat}{tn xn:Str}{q1 q2 p1 p2 p3 p4 p5 r1 r2 r3 r4 r5 r6 r7 r8 r9 pos':Pos}
end
mutual
def cS:T->Bool
 | .lst _=>false
 | .scr _=>false
 | .tup ts=>fJ ts
 | .obj _ _ ts=>fJ ts
 | .exc _ _ ts=>fJ ts
 | .dct _ ts=>fJ ts
 |_=>true
def fJ:List T->Bool
 |[]=>true
 |t::ts=>cS t&&fJ ts
end
mutual
theorem qk {K:.j}{F F':Hp}(h:∀a o,F a=some o->(∀xs,o≠.lst xs)->F' a=some o):∀{t:T} {v:V},cS t=true->Rep K F t v->Rep K F' t v
 | .non,v,_,r=>r
 | .bl _,v,_,r=>r
 | .int _,v,_,r=>r
 | .str _,v,_,r=>r
 | .ty _,v,_,r=>r
 | .ptr _,v,_,r=>r
 | .tup ts,v,n,r=>by
  obtain⟨a,xs,e,s,rs⟩:=r
  refine⟨a,xs,e,?_,gk h .hy rs⟩
  rcases s with (s | ⟨o,s⟩) | s
  ·exact .inl (.inl (h a _ s .eI))
  ·exact .inl (.a1 ⟨o,h a _ s .eI⟩)
  ·exact .inr s
 | .lst ts,v,n,r=>by simp [cS] at n
 | .scr ts,v,n,r=>by simp [cS] at n
 | .dct ns ts,v,n,r=>by
  obtain⟨a,ob,vs,e,s,l,rs⟩:=r
  exact⟨a,ob,vs,e,h a _ s .eI,l,gk h .hy rs⟩
 | .obj C ns ts,v,n,r=>by
  obtain⟨a,dx,vs,e,s,l,rs⟩:=r
  exact⟨a,dx,vs,e,h a _ s .eI,l,gk h .hy rs⟩
 | .exc C ns ts,v,n,r=>by
  obtain⟨a,od,e,s,r3⟩:=r
  exact⟨a,od,e,h a _ s .eI,r3.imp id fun⟨d,us,k1,k2,k3,N⟩=>⟨d,us,k1,h d _ k2 .eI,k3,gk h .hy N⟩⟩
theorem gk {K:.j}{F F':Hp}(h:∀a o,F a=some o->(∀xs,o≠.lst xs)->F' a=some o):∀{ts:List T} {vs:List V},fJ ts=true->aM K F ts vs->aM K F' ts vs
 |[],vs,_,r=>r
 |t::ts,vs,n,r=>by
  rw [fJ,zbO] at n
  obtain⟨v,y,e,r1,r2⟩:=r
  exact⟨v,y,e,qk h n.1 r1,gk h n.2 r2⟩
end
section
variable {X:Cx}{t x y:Nat}{tn xn yn:Str}{q1 q2 p1 p2 p3 p4 p5 r1 r2 r3 r4 r5 r6 r7 r8 r9 pos' a1 a2 c1 c2:Pos}
end
section
variable {P:.ai}{w:World}{K:.j}{mg:.G}{base:Heap}{j k n:Nat}{x:Str}
end
section
variable {X:Cx}{e a b:Expr}{es:.av}{pos:Pos}{g:FA}{k n:Nat}
end
section
variable {X:Cx}{x:Nat}{xn:Str}{r1 r2 r3 r4 r5 r6 r7 r8 r9 a1 a2 a3:Pos}
end
section
variable {K:.j}{Y0 Y9 F H F' H':Hp}{σ σ':L2.St}{τ τ':az}{A:.V}
end
section
variable {X:Cx}{x:Nat}{e:Expr}{pos:Pos}{hs:.D}
end
section
variable {X:Cx}{r pl nu:Nat}{rn pn nn:Str}{t1 t2 px e1 e2 e3 e4 e5 b1 b2 b3 b4 pos:Pos}{E:Expr}{fE:FE}{φ:T->T}
end
section
variable {X:Cx}{r t x pl nu:Nat}{rn tn xn pn nn:Str}{t1 t2 px e1 e2 e3 e4 e5 b1 b2 b3 b4 pos c1 c2 cpos:Pos}{E:Expr}{φ:T->T}{kx:Nat}
end
section
variable {K:.j}{F H:Hp}
end
section
variable {X:Cx}{r t x pl nu:Nat}{xn:Str}{a1 a2 a3 f1 f2:Pos}
end
section
variable {K:.j}{F H:Hp}{A:.V}
end
section
variable {X:Cx}{e:Expr}{pos:Pos}{x:Nat}
end
section
variable {X:Cx}{x:Nat}{xn:Str}{r1 r2 r3 r4 r5 r6 r7 r8 r9 a1 a2 a3:Pos}
end
section
variable {X:Cx}{e:Expr}{pos:Pos}{b:Bool}
end
section
variable {K:.j}{Y0 Y9 F H F' H':Hp}{σ σ':L2.St}{τ τ':az}{x:Nat}{p:Addr}{tss:List (List T)}{A:.V}
end
section
variable {X:Cx}{pos p2:Pos}
end
section
variable {X:Cx}{e:Expr}{pos:Pos}{x:Nat}
end
section
variable {K:.j}{Y0 Y9 F H F' H':Hp}{σ σ':L2.St}{τ τ':az}
end
section
variable {X:Cx}{e v:Expr}{pos pos2:Pos}{x i j:Nat}{nx ni nj:Str}{q1 q2 q3 q4 q5 p1 p2 p3:Pos}{fo:pQ}{fv:FE}{t:T}
end
section
variable {X:Cx}{e:Expr}{pos:Pos}{x:Nat}
end
section
variable {X:Cx}{e:Expr}{pos:Pos}{x:Str}{f:FE}
end
section
variable {prog:.ai}{w:World}{A:Around}{R:.e4}{s:Shared}{elt tg iter tg2 iter2:Expr}{scope:Scope}{pos:Pos}{it acc:Value}{env:Env}
end
section
variable {X:Cx}{K:.j}{D:Addr}{F₂ H₁:Hp}{pins:.s}{σ:L2.St}{H F:Hp}{τ:az}{us:List T}{s:Shared}
end
section
variable {X':Cx}{tg iter tg2 iter2 elt:Expr}{scope:Scope}{pos:Pos}{fg2:FG}{fi2:FA}{fe:FE}{D:Addr}{F₂ H₁:Hp}
end
section
variable {X:Cx}
end
variable {X:Cx}
def J5:PyData->Option (List PyData)
 | .list ds=>some ds
 |_=>none
noncomputable def JJ (neg:Bool)(a b:T):Option T:=(rY a).bind fun d=>(rY b).bind fun q=>(J5 q).bind fun ds=>if SeqAt.shaped d=true/\SeqAt.shaped (.list ds)=true then some (.bl (if neg then !(ds.any fun y=>PyData.eqv y d) else ds.any fun y=>PyData.eqv y d)) else none
abbrev Oh:=JJ false
abbrev p9:=JJ true
theorem xM {hu:.bi}{ds:List PyData}{d:PyData}(h:SeqAt.shaped (.list ds)=true):PyData.canLayAll0 ds=true/\X.A.units+1+min (PyData.depthAll ds) d.depth<cLine:=by
 obtain⟨h1,h2⟩:=zbw.mp h
 refine⟨h1,?_⟩
 have M:PyData.depthAll ds+1≤64:=of_decide_eq_true h2
 have:=Nat.min_le_left (PyData.depthAll ds) d.depth
 omega
theorem PU (hu:.bi):lh X (.ag .In) Oh:=by
 intro pins s σ H x y v u Q I N S ⟨F,a,b,t,R,m,B,e,q⟩
 obtain⟨E,e1,e⟩:=bind_some e
 obtain⟨J,e2,e⟩:=bind_some e
 obtain⟨ds,e3,e⟩:=bind_some e
 split at e
 ·next hs =>
  cases e
  cases J<;>cases e3
  obtain⟨as,q1⟩:=dC I R e1 m N
  obtain⟨bs,q2⟩:=dC I R e2 B S
  obtain⟨h1,h2⟩:=xM (X:=X) (hu:=hu) (d:=E) hs.2
  exact SeqAt.in_list_reads q2 q1 h1 .iR h2 .bj
 ·cases e
theorem HZ (hu:.bi):lh X (compareOp .NotIn) p9:=by
 intro pins s σ H x y v u Q I N S ⟨F,a,b,t,R,m,B,e,q⟩
 obtain⟨E,e1,e⟩:=bind_some e
 obtain⟨J,e2,e⟩:=bind_some e
 obtain⟨ds,e3,e⟩:=bind_some e
 split at e
 ·next hs =>
  cases e
  cases J<;>cases e3
  obtain⟨as,q1⟩:=dC I R e1 m N
  obtain⟨bs,q2⟩:=dC I R e2 B S
  obtain⟨h1,h2⟩:=xM (X:=X) (hu:=hu) (d:=E) hs.2
  exact SeqAt.notIn_list_reads q2 q1 h1 .iR h2 .bj
 ·cases e
variable {X:Cx}{e:Expr}{pos:Pos}
theorem ur {x:Str}{a:Addr}(L:Gl X x)(hm:X.mg x=some (.d a))(hd:.M=false:=by decide):SE X .fB (fC (.ptr a)):=
 gO (rQ (v:=.ref a) L hm rfl hd) fun F=>rfl
section
variable {X:Cx}{pins:.s}{σ:L2.St}{H:Hp}{s:Shared}{h':Heap}{a:Addr}{o:HO}
end
section
variable {X:Cx}{e:Expr}{pos:Pos}{g:FA}
end
section
variable {X:Cx}{pins:.s}{σ:L2.St}{H:Hp}{s:Shared}{a:Addr}{φ ψ:Heap->Prop}
end
section
variable {X:Cx}{e:Expr}{pos:Pos}{g:FA}
end
section
variable {prog:.ai}{w:World}{A:Around}{E:.n}{s:Shared}{K:.j}{x C f:Addr}{ox:Obj}{od:Option Obj}{name:Str}{bm:.S}
end
section
variable {X:Cx}{o:Expr}{m:Str}{pos apos:Pos}{fo:FE}{k:Nat}
end
section
variable {X:Cx}
end
section
variable {X:Cx}{e:Expr}{pos:Pos}{f:FE}
end
noncomputable def RN (x:Str):It:=⟨fun i _=>i<x.cps.size,fun i H v H'=>H'=H/\∃c,x.cps[i]? = some c/\v=.str ⟨#[c]⟩,fun i _=>i=x.cps.size⟩
theorem Jb {P:.ai}{w:World}{K:.j}{tg:Expr}(it:Addr)(x:Str)(t:Tok)(kd:String)(hk:["enumerate","zip","dict_itemiterator","dict_reverseitemiterator","odict_iterator","itertools.zip_longest","itertools.pairwise"].contains kd=false)
  (W:∀A:Around,A.handled=none->PySem.Walks P w A it [it] [it] x.cps.size (SignAt x) (fun i h=>h.IsStrIter it kd x t i))
  (S:∀(A:Around) (i:Nat) (s:Shared) (Q:.n) (E:.n),s.heap.IsStrIter it kd x t i->Q .hD s->wpAny .gG A (pyIter .hD) Q E s):Turn P w K tg (RN x) [it] it (fun i h=>h.IsStrIter it kd x t i) where
 mem:=.f
 obj:=fun i h st b hb=>by
  have e:b=it:=by simpa using hb
  subst e
  obtain⟨o,e,c,d⟩:=st
  exact⟨o,e,fun v z=>by rw [d] at z;cases z⟩
 keep:=fun i h h' st k=>by obtain⟨o,e,r⟩:=st;exact⟨o,k it .f o e,r⟩
 item:=by
  intro X j B T U i pins s σ H E I hf st L
  subst j B T
  obtain⟨f0,f1,f2,M,f4,F⟩:=hf it .f
  refine (W X.A .dk).item i s _ _ L st fun v h' tk Z g kk=>?_
  obtain⟨c,u,m,rfl⟩:=Z
  have O:.ff:=I.turned .fd f0 f1 M f4 F
  obtain⟨o,e,C,d⟩:=id g
  exact⟨_,rfl,zP (s:={ s with heap:=h',toks:=tk }) e C d hk ⟨.str ⟨#[c]⟩,H,O,⟨_,rfl⟩,⟨rfl,c,m,rfl⟩,g,fun b hb=>(hf b hb).1⟩⟩
 done:=by
  intro X j B T U i pins s σ H E I hf st L
  subst j B T
  obtain⟨f0,f1,f2,M,f4,F⟩:=hf it .f
  obtain rfl:i=x.cps.size:=L
  exact (W X.A .dk).done s _ _ st fun h' tk kk=>⟨rfl,I.turned .fd f0 f1 M f4 F⟩
 self:=S
section
variable {X:Cx}{tg l:Expr}{f:FE}
def R6 (tl:TE):TI:=fun σ H R=>tl σ H fun x H1=>∃a,x=.str a/\R (RN a) H1
theorem Nb {tl:TE}(hl:PE X l tl):PI X tg l (R6 tl):=by
 intro pins s σ H R I h
 refine .l .fI
 obtain⟨a,e,q⟩:=q1
 subst e
 obtain⟨t,rfl⟩:=r1
 have fin:∀kd,["enumerate","zip","dict_itemiterator","dict_reverseitemiterator","odict_iterator","itertools.zip_longest","itertools.pairwise"].contains kd=false->(∀A:Around,A.handled=none->PySem.Walks X.prog X.w A s1.heap.objs.size .fg .fg a.cps.size (SignAt a) (fun i h=>h.IsStrIter s1.heap.objs.size kd a t i))->(∀(A:Around) (i:Nat) (s:Shared) (Q:.n) (E:.n),s.heap.IsStrIter s1.heap.objs.size kd a t i->Q .gW s->wpAny .o A (pyIter .gW) Q E s) ->
   RR X pins σ tg R .gW { s1 with heap:=s1.heap.push { cls:=.type kd,data:=.fields #[.str a t,.int 0 0] } }:=fun kd hk W S=>by
  refine⟨s1.heap.objs.size,.fg,_,_,H1,rfl,O.kept (t':=s1.toks) fun b o e=>Heap.get?_push_of_some _ e,Jb _ a t kd hk W S,.dz,fun b hb=>?_,q⟩
  have e:b=s1.heap.objs.size:=by simpa using hb
  subst e
  exact .ad .bJ
 cases ha:a.cps.all (· < 128)
 ·exact wpAny_pyIter_wide ha (fin _ .e (fun A hA=>Walks.strWide hA _ a t) fun A i s Q E st h=>wpAny_pyIter_striter_wide st h)
 ·exact wpAny_pyIter_ascii ha (fin _ .e (fun A hA=>Walks.strAscii hA _ a t) fun A i s Q E st h=>wpAny_pyIter_striter_ascii st h)
def jz (x:Str):List T:=x.cps.toList.map fun c=>.str ⟨#[c]⟩
theorem signs_get {x:Str}{i:Nat}{t:T}(e:(jz x)[i]? = some t):∃c,x.cps[i]? = some c/\t=.str ⟨#[c]⟩:=by
 unfold jz at e
 rw [zaI,Array.getElem?_toList] at e
 cases h:x.cps[i]? with
 |none=>rw [h] at e;cases e
 |some c=>rw [h] at e;cases e;exact⟨c,rfl,rfl⟩
theorem FR {K:.j}{F:Hp}(x:Str):TM.Walks K F (jz x) (RN x):=by
 refine⟨fun i t F1 H1 e s1 s2=>?_,fun i t F1 H1 v H2 e s1 s2 y=>?_,fun F1 H1 s1 s2=>by show (jz x).length=_;simp [jz]⟩
 ·obtain⟨c,h,_⟩:=signs_get e
  exact (za8.mp h).1
 ·obtain⟨rfl,c,h1,rfl⟩:=y
  obtain⟨C,h2,rfl⟩:=signs_get e
  rw [h1] at h2;cases h2
  exact⟨F1,aZ.refl s2,rfl⟩
def sZ (f:FE):FA:=fun τ=>(f τ).bind fun p=>match p.1 with | .str x=>some (jz x,p.2) | _=>none
theorem IM (h:SE X l f):SI X tg l (sZ f):=fun Y0 Y9=>PI.weak (Nb .cT) fun σ H R G=>by
 obtain⟨F,τ,ts,τ',E,e1,q⟩:=G
 obtain⟨⟨x,τ1⟩,e2,e1⟩:=bind_some e1
 dsimp only at e1
 split at e1
 ·cases e1
  refine⟨F,τ,_,τ',E,e2,fun F' H' v Z s' Y=>?_⟩
  cases Y
  exact⟨_,rfl,q F' H' _ Z s' (FR _)⟩
 ·cases e1
end
section
variable {X:Cx}{o e:Expr}{fo fe:FE}{name:Str}{id:String}{apos cpos:Pos}{g:.cX}
abbrev Lh (X:Cx)(id:String)(g:.cX):Prop:=Ow X id (fun x vs H Q=>∃y,vs=[y]/\Nn X.K g x y H Q)
theorem gx (slot:Slot "str" name id)(k:.fv)(hm:Lh X id g)(d:∀a b t,g a b=some t->∃x,a=.str x)(ho:SE X o fo)(he:SE X e fe)
  (C:attributeBase o name X.env (.V o)=eval o X.env:=by rfl)
  (j:((backTo cpos .iW).all (fun x=>!x.1)&&(backToKw cpos .cR).all .gH
   && decide ([e].length+([]:List Keyword).length+(if ([]:List Keyword).isEmpty then 0 else 1)<30))=true:=by rfl)
  (n:.dh=true:=by rfl) (hs:starEach [e] X.env=(.p e)::starEach [] X.env:=by rfl) (c:(backTo cpos .gF).any (·.1)=false:=by rfl):
  SE X (.Call (.Attribute o name apos) [e] [] cpos) (ar g fo fe):=fun Y0 Y9 =>
 PE.weak (Ij PySem.F.plainAttrs_str slot k hm (ho Y0 Y9) (kl .eB ue hs) C j n hs c) fun σ H Q G=>by
  obtain⟨F,τ,t,τ',E,e1,q⟩:=G
  obtain⟨⟨a,τ1⟩,e2,e1⟩:=bind_some e1
  obtain⟨⟨b,τ2⟩,e3,e1⟩:=bind_some e1
  obtain⟨u,e4,e1⟩:=bind_some e1
  cases e1
  obtain⟨x,rfl⟩:=d _ _ _ e4
  refine⟨F,τ,_,τ1,E,e2,fun F1 H1 l V s1 r1=>?_⟩
  cases r1
  exact⟨rfl,F1,τ1,b,_,V,e3,fun F2 H2 i O s2 r2=>⟨i,rfl,F2,.str x,b,t,O.g.fh,rfl,r2,e4,fun F' H' v A f=>q F' H' v (O.grow A) ((s1.trans s2).trans A.sF) f⟩⟩
noncomputable def tj:T->T->Option T
 | .str a,.str b=>if a.length≤sizeLine then some (.str (Txt.removeprefix a b)) else none
 |_,_=>none
theorem HF:Lh X "str.removeprefix" tj:=by
 intro pins s σ H x vs v us Q I N f ⟨y,c,F,a,b,t,R,m,B,e,q⟩
 subst c
 obtain⟨L,rfl,r1⟩:=Vals.one f
 unfold tj at e
 split at e
 ·split at e
  ·next hl =>
   cases e;cases m;cases B
   obtain⟨t1,rfl⟩:=N
   obtain⟨t2,rfl⟩:=r1
   exact SC.removeprefix (fun t' k=>⟨.str _,H,I.tok _,.ag,q F H _ .ao rfl⟩) hl
  ·cases e
 ·cases e
noncomputable def Ms:T->T->Option T
 | .str a,.int i=>if PadOk i=true then some (.str (Txt.zfill a i)) else none
 |_,_=>none
theorem Pw:Lh X "str.zfill" Ms:=by
 intro pins s σ H x vs v us Q I N f ⟨y,c,F,a,b,t,R,m,B,e,q⟩
 subst c
 obtain⟨L,rfl,r1⟩:=Vals.one f
 unfold Ms at e
 split at e
 ·split at e
  ·next hl =>
   cases e;cases m;cases B
   obtain⟨t1,rfl⟩:=N
   obtain⟨t2,rfl⟩:=r1
   exact SC.zfill hl (fun t' k=>⟨.str _,H,I.tok _,.ag,q F H _ .ao rfl⟩)
  ·cases e
 ·cases e
noncomputable def qM:T->T->Option T
 | .str a,.str b=>if (b.length == 0)=false/\a.length≤sizeLine then some (.tup [.av a b,.am a b,.al a b]) else none
 |_,_=>none
theorem sC {prog:.ai}{w:World}{A:Around}{E:.n}{s:Shared}{x y:Str}{t u:Tok}{Q:.n}(R:(y.length == 0)=false)(hsz:x.length≤sizeLine)
  (h:∀ta tb tc k,Q .b5 { s with heap:=s.heap.push { cls:=.type "tuple", data:=.seq [.str (Txt.partition x y).1 ta,.str (Txt.partition x y).2.1 tb,.str (Txt.partition x y).2.2 tc].toArray },toks:=k }):
  wpAny .O A (call (.builtin "str.partition") [.str x t,.str y u]) Q E s:=by
 refine call_meets F.slot_str_partition (typeIs_str _ _ _) F.entry_str_partition (F.args_str_partition_2 _ _) (meets_str_partition x y t u R hsz) ?_
 have h':=h
 unfold Txt.partition at h'
 revert h'
 cases Builtin.Str.occurrences x y 0 x.length 1 with
 |nil=>intro h';exact h' _ _ _ _
 |cons i r=>intro h';exact h' _ _ _ _
theorem J8:Lh X "str.partition" qM:=by
 intro pins s σ H x vs v us Q I N f ⟨y,c,F,a,b,t,R,m,B,e,q⟩
 subst c
 obtain⟨L,rfl,r1⟩:=Vals.one f
 unfold qM at e
 split at e
 ·next _ _ d i =>
  split at e
  ·next hl =>
   cases e;cases m;cases B
   obtain⟨t1,rfl⟩:=N
   obtain⟨t2,rfl⟩:=r1
   refine sC hl.1 hl.2 fun ta tb tc k=>?_
   have hf:.cF:=I.fresh
   have A:=aZ.new (.tup [.av d i,.am d i,.al d i]) R hf
   refine⟨.ref s.heap.objs.size,_,I.laid (t':=k) (o:=.tup [.av d i,.am d i,.al d i]) (fun b u e=> .cH) .bJ ?_,rfl,q _ _ _ A ⟨_,_,rfl,mQ.of aF,⟨_,_,rfl,rfl,_,_,rfl,rfl,_,_,rfl,rfl,rfl⟩⟩⟩
   exact⟨TB,_,.cons .ag (.cons .ag (.aD .ag)),⟨_,.ac,rfl,_,rfl⟩⟩
  ·cases e
 ·cases e
noncomputable def strsOf:List T->Option (List Str)
 |[]=>some []
 | .str x::ts=>(strsOf ts).bind fun r=>some (x::r)
 |_::_=>none
theorem pD {K:.j}{F:Hp}:∀{ts:List T} {ys:.U} {vs:List V} {us:.S},strsOf ts=some ys->aM K F ts vs->Vals vs us->StrsAre us ys
 |[],_,_,_,e,r,f=>by cases e;cases r;cases f;exact .nil
 | .str x::ts,_,_,_,e,r,f=>by
  obtain⟨ys,e1,e⟩:=bind_some e
  cases e
  obtain⟨v,y,rfl,h1,h2⟩:=r
  cases h1
  cases f with
  |cons r1 r2 =>
   obtain⟨t,rfl⟩:=r1
   exact .cons _ _ (pD e1 h2 r2)
 | .non::_,_,_,_,e,_,_=>by cases e
 | .bl _::_,_,_,_,e,_,_=>by cases e
 | .int _::_,_,_,_,e,_,_=>by cases e
 | .ty _::_,_,_,_,e,_,_=>by cases e
 | .tup _::_,_,_,_,e,_,_=>by cases e
 | .lst _::_,_,_,_,e,_,_=>by cases e
 | .scr _::_,_,_,_,e,_,_=>by cases e
 | .dct _ _::_,_,_,_,e,_,_=>by cases e
 | .obj _ _ _::_,_,_,_,e,_,_=>by cases e
 | .ptr _::_,_,_,_,e,_,_=>by cases e
 | .exc _ _ _::_,_,_,_,e,_,_=>by cases e
noncomputable def zO:T->T->Option T
 | .str a,.lst ts=>(strsOf ts).bind fun ys=>if (ys.map (·.length)).sum+ys.length*a.length≤16777216 then some (.str (Txt.join a ys)) else none
 |_,_=>none
theorem J7:Lh X "str.join" zO:=by
 intro pins s σ H x vs v us Q I N f ⟨y,c,F,a,b,t,R,m,B,e,q⟩
 subst c
 obtain⟨L,rfl,r1⟩:=Vals.one f
 unfold zO at e
 split at e
 ·obtain⟨ys,e1,e⟩:=bind_some e
  split at e
  ·next hl =>
   cases e;cases m
   obtain⟨p,xs,rfl,h1,h2⟩:=B
   obtain⟨t1,rfl⟩:=N
   cases r1
   obtain⟨G,d,p2,hz⟩:=I.list .fJ
   exact join_list p2.isList (by simpa using pD e1 h2 d) hl fun t' k=>⟨.str _,H,I.tok _,.ag,q F H _ .ao rfl⟩
  ·cases e
 ·cases e
end
section
variable {X:Cx}{e:Expr}{pos:Pos}
noncomputable def fU:List T->Option T
 |[.str x]=>if x.length≤640 then (PySem.intText? x).map .int else none
 |ts=>Ju ts
theorem rK:gf X (.type "int") fU:=by
 intro pins s σ H xs us Q I N ⟨F,ts,t,R,r,e,q⟩
 by_cases hs:∃x,ts=[.str x]
 ·obtain⟨x,rfl⟩:=hs
  simp only [fU] at e
  split at e
  ·next hl =>
   cases hn:PySem.intText? x with
   |none=>rw [hn] at e;cases e
   |some n =>
    rw [hn] at e;cases e
    obtain⟨v,y,rfl,h1,rfl⟩:=r
    cases h1
    obtain⟨L,rfl,⟨t1,rfl⟩⟩:=Vals.one N
    exact PySem.W.KIN.call_text hn hl ⟨.int n,H,.hG,.ag,.er⟩
  ·cases e
 ·have j:Ju ts=some t:=by
   unfold fU at e
   split at e
   ·next x=>exact absurd ⟨x,rfl⟩ hs
   ·exact e
  exact L7 pins s σ H xs us Q I N ⟨F,ts,t,R,r,j,q⟩
noncomputable def G1 (neg:Bool):T->T->Option T
 | .str x,.str y=>some (.bl (if neg then (Builtin.Str.occurrences y x 0 y.length 1).isEmpty else !(Builtin.Str.occurrences y x 0 y.length 1).isEmpty))
 |_,_=>none
abbrev rf:=G1 false
abbrev JM:=G1 true
theorem HW:lh X (.ag .In) rf:=by
 intro pins s σ H x y v u Q I N S ⟨F,a,b,t,R,m,B,e,q⟩
 unfold rf G1 at e
 split at e
 ·cases e;cases m;cases B
  obtain⟨t1,rfl⟩:=N
  obtain⟨t2,rfl⟩:=S
  exact P.in_str .bj
 ·cases e
def OC:List T->Option T
 |[.int i,.int j]=>if vL i j then some (.tup .hg) else none
 |_=>none
theorem OB:gf X (.builtin "divmod") OC:=by
 intro pins s σ H xs us Q I N ⟨F,ts,t,R,r,e,q⟩
 unfold OC at e
 split at e
 ·next i j =>
  split at e
  ·next U =>
   cases e
   obtain⟨v,y,rfl,h1,v2,r2,rfl,h2,rfl⟩:=r
   cases h1;cases h2
   obtain⟨L,S,rfl,⟨t1,rfl⟩,⟨t2,rfl⟩⟩:=Vals.two N
   refine divmod_int U.1 ?_ (.inl (PyProof.noPylong_of_log2 (zaZ (Gd U.2) (by decide:4000<9000))))
   have hf:.cF:=I.fresh
   have A:=aZ.new (.tup .hg) R hf
   refine⟨.ref s.heap.objs.size,_,I.laid (o:=.tup .hg) (fun b o e=> .cH) .bJ ?_,rfl,q _ _ _ A ⟨_,_,rfl,mQ.of aF,⟨_,_,rfl,rfl,_,_,rfl,rfl,rfl⟩⟩⟩
   exact⟨Tz,_,.cons .ag (.aD .ag),⟨_,.ac,rfl,_,rfl⟩⟩
  ·cases e
 ·cases e
noncomputable def Tc (K:.j)(te:TE)(tc:TO):TE:=fun σ H Q=>te σ H fun x H1=>tc σ H1 fun l H2=>l=some (-1)/\∃a xs,x=.ref a/\gE K H2 a xs/\∀p,H2 p=none->Q (.d p) (upd H2 p (.lst xs.reverse))
theorem M5 {c:Expr}{te:TE}{tc:TO}{p2:Pos}(he:PE X e te)(U:PO X (.aX c) tc):PE X (.X e .iU) (Tc X.K te tc):=by
 intro pins s σ H Q I h
 refine Subscript_ (.l .cS)
 refine wpAny_Slice ?_
 rw [evalPart_none]
 refine wpAny_pure (.ah (cF (U pins s1 σ H1 _ O q1) fun vs C ⟨l,H3,A,pl,q3⟩=>?_))
 obtain⟨rfl,a,xs,rfl,hx,q⟩:=q3
 have t:Inv X pins σ H3 { C with heap:=C.heap.push { cls:=.type "slice", data:=.fields #[.none,.none,vs] } }:=A.kept (t':=C.toks) fun b ob q=>Heap.get?_push_of_some _ q
 cases r1
 obtain⟨G,r,Y,hz⟩:=t.list hx
 have hlen:=r.length
 show wpAny .o X.A (subscriptTail e .iU (.d a) (.ref C.heap.objs.size)) .bR X.xe { C with heap:=C.heap.push { cls:=.type "slice", data:=.fields #[.none,.none,vs] } }
 refine tail_any (ops:=[.ref a,.ref C.heap.objs.size]) Y.isList.typeIs slot_list_getitem.lookup ?_ (by with_unfolding_all rfl)
 refine wpAny_getItem_list_slice Y.isList (Heap.IsSliceOf.new ..) .none .none pl .f ?_ .gJ
 rw [PySem.W.krv_pick]
 refine⟨.ref _,_,t.laid (t':=C.toks) (o:=.lst xs.reverse) (fun b ob q=> .bD) .bJ ?_,rfl,q _ (t.hok.fresh .bJ)⟩
 exact⟨by rw [List.length_reverse];exact hz,G.reverse,0,Vals.reverse r,Heap.get?_push_size _ rfl⟩
noncomputable def jW (i:Nat)(fc:FO):FE:=fun τ=>match τ[i]? with
 |some (some _)=>(fc τ).bind fun q=>if q.1=some (-1) then match q.2[i]? with
  |some (.n us)=>some (.lst us.reverse,q.2)
  |_=>none else none
 |_=>none
theorem FD (i:Nat){x:Str}{p1 p2:Pos}{c:Expr}{fc:FO}(Z:PE X .gA (uA i))(U:SO X (.aX c) fc):SE X (.X .gA .iU) (jW i fc):=
 fun Y0 Y9=>PE.weak (M5 Z (U Y0 Y9)) fun σ H Q G=>by
  obtain⟨F,τ,t,τ',E,e1,q⟩:=G
  unfold jW at e1
  split at e1
  ·next s e3 =>
   obtain⟨⟨l,τ2⟩,e4,e1⟩:=bind_some e1
   obtain⟨v0,g1,_⟩:=E.sl i _ e3
   dsimp only at e1
   split at e1
   ·next hl =>
    refine⟨v0,g1,F,τ,l,τ2,E,e4,fun F2 H2 O s2=>⟨hl,?_⟩⟩
    split at e1
    ·next us u =>
     cases e1
     obtain⟨W,k1,p,vs,rfl,k2,k3,N,k5⟩:=O.sl i _ u
     rw [g1] at k1;cases k1
     refine⟨p,vs,rfl,gE.of k2,fun a ha=>?_⟩
     have A:=aZ.new (.lst vs.reverse) O.g.fh ha
     exact q _ _ _ (O.grow A) (s2.trans A.sF) ⟨a,_,rfl,aF,aM.mono A.sF k5.rev⟩
    ·cases e1
   ·cases e1
  ·cases e1
theorem wW:∀{As:.V} {us:.S},Vals (As.map .ref) us->us=As.map .ref
 |[],_,.nil=>rfl
 |A::As,_,.cons h r=>by
  rw [wW r]
  cases h
  rfl
theorem ql {K:.j}{F:Hp}:∀{As:.V} {vs:List V},aM K F (As.map .ptr) vs->vs=As.map .ref
 |[],_,h=>by cases h;rfl
 |A::As,_,h=>by
  obtain⟨v,y,rfl,h1,h2⟩:=h
  rw [ql h2]
  cases (show v=V.ref A from h1)
  rfl
end
theorem Hf:∀a b t,tj a b=some t->∃x,a=.str x:=fun a b t h=>by
 unfold tj at h
 split at h
 ·exact⟨_,rfl⟩
 ·cases h
theorem O5:∀a b t,Ms a b=some t->∃x,a=.str x:=fun a b t h=>by
 unfold Ms at h
 split at h
 ·exact⟨_,rfl⟩
 ·cases h
theorem JP:∀a b t,qM a b=some t->∃x,a=.str x:=fun a b t h=>by
 unfold qM at h
 split at h
 ·exact⟨_,rfl⟩
 ·cases h
theorem JO:∀a b t,zO a b=some t->∃x,a=.str x:=fun a b t h=>by
 unfold zO at h
 split at h
 ·exact⟨_,rfl⟩
 ·cases h
section
variable {env:Env}{es:.av}
end
section
variable {X:Cx}{e:Expr}{es:.av}{pos:Pos}{x:Nat}{g:FA}
end
section
variable {P:.ai}{w:World}{K:.j}{mg:.G}{base:Heap}
end
section
variable {K:.j}{Y0 Y9 F H F' H':Hp}{σ σ':L2.St}{τ τ':az}{x t w:Nat}{p q:Addr}{tss:List (List T)}{A:.V}
end
section
variable {X:Cx}{e:Expr}{pos:Pos}{x t:Nat}
end
section
variable {prog:.ai}{w:World}{A:Around}{E:.n}{s:Shared}
variable {z TI TO i1 i2 l2:Addr}{k c:Nat}{u:Str}{t1:Tok}{ys:.cP}{x y a b:Value}
end
section
variable {prog:.ai}{w:World}{A:Around}{E:.n}{s:Shared}
end
inductive RL where
 |nx (os:List O) (τ:az) | rt (t:T)
abbrev FQ:=Addr->List O->az->Option RL
noncomputable def CU (K:.j)(Y0 Y9 F:Hp)(D:Ends)(x:Nat)(p:Addr):RL->Prop
 | .nx os τ=>∀F' H' σ' f,m9 K Y0 Y9 F' H' σ' τ x p os f->aJ F F'->D.nx σ' H'
 | .rt t=>∀F' H' v,aZ Y0 Y9 F' H'->Rep K F' t v->D.rt v H'
theorem CU.mono {K:.j}{Y0 Y9 F F1:Hp}{D:Ends}{x:Nat}{p:Addr}{r:RL}(s:aJ F F1)(q:CU K Y0 Y9 F D x p r):CU K Y0 Y9 F1 D x p r:=by
 cases r with
 |nx os τ=>exact fun F' H' σ' f d s'=>q F' H' σ' f d (s.trans s')
 |rt t=>exact q
noncomputable def tQ (K:.j)(Y0 Y9:Hp)(x:Nat)(f:FQ):TS:=fun D σ H=>∃F τ p os A r,m9 K Y0 Y9 F H σ τ x p os A/\f p os τ=some r/\CU K Y0 Y9 F D x p r
def SQ (X:Cx)(x:Nat)(st:Stmt)(f:FQ):Prop:=∀Y0 Y9,PS X st (tQ X.K Y0 Y9 x f)
def QO (X:Cx)(x:Nat)(a:.a4)(f:FQ):Prop:=∀Y0 Y9,lj X a (tQ X.K Y0 Y9 x f)
abbrev seen (x:Nat)(os:List O)(τ:az):az:=(hide τ).set x (.o (.lst (O.trs os)))
noncomputable def pk (f g:FQ):FQ:=fun p os τ=>(f p os τ).bind fun r=>match r with
 | .nx a τ'=>g p a τ'
 | .rt t=>some (.rt t)
theorem m9.look {K:.j}{Y0 Y9 F H:Hp}{σ:L2.St}{τ:az}{x:Nat}{p:Addr}{os:List O}{A:.V}(d:.aW):aB K .d9 H .d9 H σ (seen x os τ):=by
 have z:=Hy d.E d.r d.get
 rw [O.tr] at z
 exact z
theorem m9.lo {K:.j}{Y0 Y9 F H:Hp}{σ:L2.St}{τ:az}{x:Nat}{p:Addr}{os:List O}{A:.V}(d:.aW):QM K Y0 Y9 F H σ τ A:=⟨d.E,fun a ha=>d.lies ha,d.h0,d.ap⟩
theorem m9.unlent {K:.j}{Y0 Y9 F H F' H':Hp}{σ:L2.St}{τ:az}{x:Nat}{p:Addr}{os:List O}{A:.V}(d:.aW)(g:aZ Y0 (frzO Y9 H A) F' H'):aZ Y0 Y9 F' H':=by
 refine⟨g.sF,fun a o e=>?_,g.fh,fun a o e=>?_⟩
 ·have m:a∉A:=fun m=>by rw [d.h0 a m] at e;cases e
  exact g.sH _ _ (by rw [cH m];exact e)
 ·rcases g.nw a o e with z | z
  ·exact .inl z
  ·have m:a∉A:=fun m=>by
    obtain⟨vs,k⟩:=(d.lies m).2
    rw [fA m,k] at z;cases z
   exact .a1 (by rw [cH m] at z;exact z)
section
variable {X:Cx}{e:Expr}{pos:Pos}{x:Nat}
theorem K0 {st:Stmt}{f:FQ}(h:SQ X x st f):QO X x [st] f:=fun Y0 Y9=>rR .cT
theorem fu {st:Stmt}{rest:.a4}{f g:FQ}(h1:SQ X x st f)(h2:QO X x rest g):QO X x (st::rest) (pk f g):=fun Y0 Y9=>lj.weak .gh fun D σ H G=>by
 obtain⟨F,τ,p,os,A,r,d,e1,q⟩:=G
 obtain⟨r1,e2,e1⟩:=bind_some e1
 refine⟨F,τ,p,os,A,r1,d,e2,?_⟩
 cases r1 with
 |nx a τ'=>exact fun F1 H1 w b E s1=>⟨F1,τ',p,a,b,r,E,e1,q.mono s1⟩
 |rt t=>cases e1;exact q
noncomputable def Rv (x:Nat)(tc:FT)(b:Bool):FQ:=fun p os τ=>(tc (seen x os τ)).bind fun q=>if q.1=true then some (.rt .f0) else some (.nx os τ)
theorem Qo {c:Expr}{body:.a4}{tc:FT}{b:Bool}(t:ST X c tc)(hb:vM X body (bo (fC .f0))):SQ X x (.If c body [] pos) (Rv x tc b):=fun Y0 Y9=>PS.weak (AK t.any' .c4 ph) fun D σ H G=>by
 obtain⟨F,τ,p,os,A,r,d,e1,q⟩:=G
 obtain⟨⟨c0,τ2⟩,e2,e1⟩:=bind_some e1
 refine d.test e2 fun F2 H2 J s2=>?_
 dsimp only at e1
 split at e1
 ·next h=>cases e1;rw [if_pos h];exact⟨F2,τ,.rt .f0,J.E,rfl,q⟩
 ·next h=>cases e1;rw [if_neg h];exact q F2 H2 σ A J s2
def Co:FQ:=fun _ _ τ=>some (.nx [] τ)
theorem IQ {xn:Str}{p1 p2 p3:Pos}(Z:PE X .jd (uA x))
  (C:attributeBase .jd "clear" X.env (.V .jd)=eval .jd X.env:=by rfl) (n:.hu=true:=by rfl)
  (S:swapsWith (.Call (.Attribute .jd "clear" p2) [] [] p3) none pos.line X.env=pure false:=by rfl):
  SQ X x (.Expr (.Call (.Attribute .jd "clear" p2) [] [] p3) pos) Co:=fun Y0 Y9 =>
 PS.weak (pf (Ik zbn PySem.F.slot_list_clear PySem.F.type_list_clear HE Z C n) S) fun D σ H G=>by
  obtain⟨F,τ,p,os,A,r,d,e1,q⟩:=G
  cases e1
  obtain⟨i,vs,B,t,hA,k1,k2,k3⟩:=id d.r
  cases t
  have c:p∈A:=by rw [hA];exact zae
  have L:=d.lo.upd c []
  refine⟨.ref p,d.get,.inl ⟨rfl,vs,gE.of k1⟩,p,vs,rfl,rfl,k1,q F _ σ [p] ⟨L.E,d.hx,⟨p,[],[],rfl,rfl,aF,k2,rfl,rfl⟩,.f,fun a ha=>?_,fun j us b e5 u hb=>?_⟩ .dQ⟩
  ·rw [zac.mp ha];exact d.h0 _ c
  ·rw [zac.mp hb] at u;exact d.ap j us p e5 u c
def Nl (f:FE):FQ:=fun _ _ τ=>(f τ).bind fun q=>some (.rt q.1)
theorem NG {f:FE}(he:.fx):SQ X x (.Return (.aX e) pos) (Nl f):=fun Y0 Y9=>PS.weak (Cn he.any) fun D σ H G=>by
 obtain⟨F,τ,p,os,A,r,d,e1,q⟩:=G
 obtain⟨⟨t,τ1⟩,e2,e1⟩:=bind_some e1
 cases e1
 exact⟨Y0,frzO Y9 H A,F,τ,t,τ1,d.lend,e2,fun F1 H1 v V s1 r1=>q F1 H1 v (d.unlent V.g) r1⟩
end
open Classical in
def AJ (P:T->Prop):Option R:=if h:∃t,P t then some (.rt h.choose) else none
theorem Iw {P:T->Prop}{t:T}(h:P t)(u:∀t',P t'->t'=t):AJ P=some (.rt t):=by
 have e:∃t,P t:=⟨t,h⟩
 unfold AJ
 rw [dif_pos e,u _ e.choose_spec]
theorem Cj {P:T->Prop}{r:R}(h:AJ P=some r):∃t,r=.rt t/\P t:=by
 unfold AJ at h
 split at h
 ·next e=>cases h;exact⟨_,rfl,e.choose_spec⟩
 ·cases h
section
variable {X:Cx}{e:Expr}{pos:Pos}
theorem m9.start {K:.j}{Y0 Y9 F H:Hp}{σ:L2.St}{τ:az}{x:Nat}{p:Addr}{os:List O}{A:.V}(E:.aw)(hx:x<τ.length)(ro:fF K F H (.lst os) (.d p) A)(nd:A.Nodup)(h0:∀a∈A,Y9 a=none)(ap:Apart σ τ A):
  m9 K Y0 Y9 F H (σ.set x (.R p)) (τ.set x .eJ) x p os A:=by
 refine⟨E.set (t:=.ptr p) (v:=.ref p) rfl,zak hx,ro,nd,h0,fun j us b e1 e2=>?_⟩
 by_cases P:x=j
 ·subst P
  rw [zak hx] at e1;cases e1
 ·rw [zal P] at e1 e2
  exact ap j us b e1 e2
end
section
variable {K:.j}{Y0 Y9 F H F' H':Hp}{σ:L2.St}{τ τ':az}{A:.V}
end
section
variable {X:Cx}{e:Expr}{es:.av}{pos:Pos}{g:FA}
end
section
variable {X:Cx}{e:Expr}{pos:Pos}
noncomputable def KO:V->List V->Hp->VK->Prop:=fun x vs H Q=>∃l xs i y,x=.ref l/\vs=[.int i,y]/\H l=some .cG/\0≤i/\i.toNat≤xs.length/\xs.length<1000/\Q .non (.Y l (.lst (xs.take i.toNat++y::xs.drop i.toNat)))
theorem Ft:RQ X "list.insert" KO:=by
 intro pins s σ H x vs v us Q I N f h
 obtain⟨l,xs,i,y,rfl,rfl,g,h0,h1,h2,q⟩:=h
 cases N
 obtain⟨L,S,rfl,m,B⟩:=Vals.two f
 obtain⟨t,rfl⟩:=m
 obtain⟨z,G,n,r,hl,e⟩:=I.lstM g
 have hk:i.toNat≤G.length:=by rw [<- hl];exact h1
 have hf:¬ (!Builtin.List.listFitsIndex i)=true:=by
  unfold Builtin.List.listFitsIndex
  simp
  omega
 refine call_meets F.slot_list_insert .i3 F.entry_list_insert (F.args_list_insert_3 _ _ _) (AutoSeq1.list_insert_list_int_val_1 l G.toArray n i t S hf (by rw [zaE];omega)) ⟨e,?_⟩
 refine⟨.non,_,I.lset (its':=G.take i.toNat++S::G.drop i.toNat) g e ?_ ((r.take _).append (.cons B (r.drop _))) ?_,rfl,q⟩
 ·show (G.toArray.extract 0 _).push S++G.toArray.extract _=_
  rw [if_neg .d,zaE,zbo hk]
  simp
  exact List.take_of_length_le (by rw [zbg];exact zam _)
 ·rw [zaj,zba,zap,zbg]
  have:=bX (n:=xs.length+1) .d
  omega
noncomputable def ES (i:Nat)(f g:FE):FS:=fun τ=>match τ[i]? with
 |some (.aX (.own _))=>(f τ).bind fun p=>(g p.2).bind fun q=>match q.2[i]?,p.1 with
  |some (.n us),.int k=>if 0≤k/\k.toNat≤us.length/\us.length<1000 then some (.nx (q.2.set i (.n (us.take k.toNat++q.1::us.drop k.toNat)))) else none
  |_,_=>none
 |_=>none
theorem FJ (i:Nat){x:Str}{e2:Expr}{p1 p2 p3:Pos}{f g:FE}(Z:PE X .gA (uA i))(he:.fx)(b:SE X e2 g)
  (C:attributeBase .gA "insert" X.env (.V .gA)=eval .gA X.env:=by rfl)
  (j:((backTo p3 (starEach [e,e2] X.env)).all (fun x=>!x.1)&&(backToKw p3 .cR).all .gH&&decide ([e,e2].length+([]:List Keyword).length+(if ([]:List Keyword).isEmpty then 0 else 1)<30))=true:=by rfl)
  (n:.hu=true:=by rfl) (hs:starEach [e,e2] X.env=(.p e)::starEach [e2] X.env:=by rfl) (T:starEach [e2] X.env=(.p e2)::starEach [] X.env:=by rfl) (l:(backTo p3 (starEach [e2] X.env)).any (·.1)=false:=by rfl)
  (S:swapsWith (.Call (.Attribute .gA "insert" p2) [e,e2] [] p3) none pos.line X.env=pure false:=by rfl):
  SS X (.Expr (.Call (.Attribute .gA "insert" p2) [e,e2] [] p3) pos) (ES i f g):=fun Y0 Y9 =>
 PS.weak (pf (Ij zbn PySem.F.slot_list_insert PySem.F.type_list_insert Ft Z (kl .eB (kl (b Y0 Y9) ue T) hs) C j n hs l) S) fun D σ H G=>by
  obtain⟨F,τ,r,E,e1,q⟩:=G
  unfold ES at e1
  split at e1
  ·next c e3 =>
   obtain⟨⟨y,τ1⟩,e2,e1⟩:=bind_some e1
   obtain⟨⟨w,τ2⟩,e4,e1⟩:=bind_some e1
   dsimp only at e1
   split at e1
   ·next us k e5 _ =>
    split at e1
    ·next hk =>
     cases e1
     obtain⟨v,g1,p,vs,rfl,g2,g3,z,L⟩:=E.sl i _ e3
     refine⟨_,g1,.inl ⟨rfl,vs,gE.of g2⟩,F,τ,_,τ1,E,e2,fun F1 H1 a V s1 r1=>⟨F1,τ1,w,τ2,V,e4,fun F2 H2 K O s2 r2=>?_⟩⟩
     cases r1
     obtain⟨W,k1,d,u,rfl,k2,k3,N,k5⟩:=O.sl i _ e5
     rw [g1] at k1;cases k1
     refine⟨p,u,k,K,rfl,rfl,k2,hk.1,by rw [k5.length];exact hk.2.1,by rw [k5.length];exact hk.2.2,q F2 _ σ (O.turnOwn e5 g1 ((k5.take _).append ⟨_,_,rfl,r2,k5.drop _⟩)) .a5⟩
    ·cases e1
   ·cases e1
  ·cases e1
noncomputable def JF (x:Nat)(fo:pQ)(c:FQ):FS:=fun τ=>(fo τ).bind fun p=>if x<p.2.length then (match p.1 with
 | .lst os=>AJ fun t=>∀a,c a os (p.2.set x (.o (.ptr a)))=some (.rt t)
 | _=>none) else none
theorem K3 {x:Nat}{xn:Str}{rest:.a4}{fo:pQ}{c:FQ}{a1 a2:Pos}(J:.eM)(hi:X.N[x]? = some xn)(a:Loc X.env.scope xn)(he:Bp X e fo)(hr:QO X x rest c)
  (i:swapsWith e (.aX (.Name xn a1)) a2.line X.env=pure false:=by rfl) (hf:X.fn xn=true\/X.env.scope.names.lookup xn=some .local:=by first | exact .inl rfl | exact .inr rfl | assumption):
  vM X (.Assign [.Name xn a1] e a2::rest) (JF x fo c):=fun Y0 Y9 =>
 lj.weak (gN (ug J hi a .eB i hf) (hr Y0 Y9)) fun D σ H G=>by
  obtain⟨F,τ,y,E,e1,q⟩:=G
  obtain⟨⟨o,τ1⟩,e3,e2⟩:=bind_some e1
  dsimp only at e2
  split at e2
  ·next b =>
   refine⟨F,τ,o,τ1,E,e3,fun F1 H1 v A V s1 ro nd h0 ap=>?_⟩
   split at e2
   ·next os =>
    obtain⟨t,rfl,P⟩:=Cj e2
    obtain⟨p,vs,B,rfl,rfl,k1,k2,k3⟩:=id ro
    have d:=m9.start V b ro nd h0 ap
    exact⟨F1,_,p,os,_,.rt t,d,P p,q⟩
   ·cases e2
  ·cases e2
end
def nl (F:Hp):Hp:=fun a=>match F a with
 |some (.lst _)=>none
 |o=>o
theorem oW {F:Hp}{a:Addr}{o:HO}(h:nl F a=some o):F a=some o/\∀xs,o≠.lst xs:=by
 unfold nl at h
 split at h
 ·cases h
 ·next hn=>exact⟨h,fun xs z=>hn xs (by rw [h,z])⟩
theorem LD {F:Hp}{a:Addr}{o:HO}(h:F a=some o)(hn:∀xs,o≠.lst xs):nl F a=some o:=by
 unfold nl
 split
 ·next xs e=>rw [h] at e;cases e;exact absurd rfl (hn xs)
 ·exact h
theorem J9 (F:Hp):aJ (nl F) F:=fun _ _ e=>(oW e).1
def NB (K:.j)(H:Hp):Prop:=∀a xs ys,H a=some .cG->¬ mQ K H a ys
theorem Pz {X:Cx}{pins:.s}{σ:L2.St}{H:Hp}{s:Shared}(I:.q):NB X.K H:=fun a xs ys h h'=>by
 obtain⟨_,G,n,_,_,e⟩:=I.lstM h
 obtain⟨its',_,⟨o,j,U,_⟩,_⟩:=I.tuple h'
 rw [e] at j
 cases j
 simp at U
theorem P0 {X:Cx}{e:Expr}{T:TE}(h:PE X e T):PE X e (fun σ H Q=>T σ H fun v H'=>NB X.K H'->Q v H'):=fun pins s σ H Q I P=>cF (h pins s σ H _ I P) fun u s1 ⟨v,H',j,r,q⟩=>⟨v,H',j,r,q (Pz j)⟩
section
variable {X:Cx}{e:Expr}{pos:Pos}
variable {k n i:Nat}{x:Str}{p:Pos}{es:.av}{g:FA}{tbl:List .aE}
end
section
variable {K:.j}{Y0 Y9 F H:Hp}{σ:L2.St}{τ:az}{A:.V}{x:Nat}{t:T}{v:V}
end
section
variable {X:Cx}{e:Expr}{pos:Pos}
end
section
variable {X:Cx}{e:Expr}{pos:Pos}
end
end TM
namespace L2
open PySem PySem.Spec PyProof.Rows
section
variable {κ:Type}[DecidableEq κ]
def m8 (kvs:.c9)(k:κ):Option V:=(kvs.find? fun G=>decide (G.1=k)).map (·.2)
noncomputable def putK (kvs:.c9)(k:κ)(v:V):List (κ×V):=
 if .eZ=true then kvs.map (fun G=>if G.1=k then (G.1,v) else G) else kvs++[(k,v)]
def lQ (kvs:.c9)(k:κ):List (κ×V):=kvs.filter fun G=>decide (G.1≠k)
theorem mO {p:κ×V}{r:.c9}{k:κ}(e:p.1=k):m8 (p::r) k=some p.2:=by simp [m8,List.find?_cons,e]
theorem mM {p:κ×V}{r:.c9}{k:κ}(e:¬ p.1=k):m8 (p::r) k=m8 r k:=by simp [m8,List.find?_cons,e]
theorem Bf (k:κ):∀kvs:List (κ×V),.eZ=(m8 kvs k).isSome
 |[]=>rfl
 |p::r=>by
  rw [List.any_cons]
  by_cases e:p.1=k
  ·simp only [mO e,decide_eq_true e,Bool.true_or,Option.isSome_some]
  ·rw [mM e,decide_eq_false e,Bool.false_or];exact Bf k r
theorem md (kvs:.c9)(k:κ)(v:V):(putK kvs k v).length≤kvs.length+1:=by
 unfold putK
 split
 ·rw [zah];omega
 ·rw [zaj,zap,List.length_nil];omega
theorem lI.isSome_eq {o:Option V}{u:.dJ}(r:lI o u):o.isSome=u.isSome:=by
 cases o with
 |none=>cases u with
  |none=>rfl
  |some _=>exact (show False from r).elim
 |some _=>cases u with
  |none=>exact (show False from r).elim
  |some _=>rfl
theorem KV.val {kvs:.c9}{vs:.dS}(r:.iM)(k:κ):lI (m8 kvs k) (valueAt vs k):=by
 unfold KV at r
 induction r with
 |nil=>exact True.intro
 |@cons p q ps i h t A =>
  obtain⟨h1,h2⟩:=h
  by_cases e:p.1=k
  ·have j:q.1=k:=h1.symm.trans e
   have b:valueAt (q::i) k=some q.2:=by simp [valueAt,List.find?_cons,j]
   rw [mO e,b];exact h2
  ·have j:¬ q.1=k:=fun z=>e (h1.trans z)
   have b:valueAt (q::i) k=valueAt i k:=by simp [valueAt,List.find?_cons,j]
   rw [mM e,b];exact A
theorem KV.any {kvs:.c9}{vs:.dS}(r:.iM)(k:κ):.eZ=vs.any fun G=>decide (G.1=k):=by
 unfold KV at r
 induction r with
 |nil=>rfl
 |cons h t A=>rw [List.any_cons,List.any_cons,A,h.1]
theorem KV.repl {kvs:.c9}{vs:.dS}(r:.iM)(k:κ){y:V}{u:Value}(S:RelV y u):
  KV (kvs.map fun G=>if G.1=k then (G.1,y) else G) (vs.map fun G=>if G.1=k then (G.1,u) else G):=by
 unfold KV at r ⊢
 induction r with
 |nil=>exact .nil
 |@cons p q ps i h t A =>
  rw [zaf,zaf]
  refine .cons ?_ A
  obtain⟨h1,h2⟩:=h
  by_cases e:p.1=k
  ·rw [if_pos e,.al (h1.symm.trans e)];exact⟨h1,S⟩
  ·rw [if_neg e,if_neg (fun z=>e (h1.trans z))];exact⟨h1,h2⟩
theorem KV.put {kvs:.c9}{vs:.dS}(r:.iM)(k:κ){y:V}{u:Value}(S:RelV y u):KV (putK kvs k y) (stored vs k u):=by
 unfold putK stored
 rw [r.any k]
 by_cases e:(vs.any fun G=>decide (G.1=k))=true
 ·rw [if_pos e,if_pos e];exact r.repl k S
 ·rw [if_neg e,if_neg e];exact Paired.snoc r ⟨rfl,S⟩
theorem KV.drop {kvs:.c9}{vs:.dS}(r:.iM)(k:κ):KV (lQ kvs k) (without vs k):=by
 unfold KV at r ⊢
 unfold lQ without
 induction r with
 |nil=>exact .nil
 |@cons p q ps i h t A =>
  obtain⟨h1,h2⟩:=h
  rw [List.filter_cons,List.filter_cons]
  by_cases e:p.1=k
  ·have a:¬ decide (p.1≠k)=true:=by simp [e]
   have b:¬ decide (q.1≠k)=true:=by simp [h1.symm.trans e]
   rw [if_neg a,if_neg b];exact A
  ·have j:¬ q.1=k:=fun z=>e (h1.trans z)
   have a:decide (p.1≠k)=true:=by simp [e]
   have b:decide (q.1≠k)=true:=by simp [j]
   rw [if_pos a,if_pos b];exact .cons ⟨h1,h2⟩ A
theorem KV.keys {kvs:.c9}{vs:.dS}(r:.iM):kvs.map (·.1)=vs.map (·.1):=by
 unfold KV at r
 induction r with
 |nil=>rfl
 |cons h t A=>rw [zaf,zaf,A,h.1]
theorem KV.length {kvs:.c9}{vs:.dS}(r:.iM):kvs.length=vs.length:=Paired.length r
theorem GF (kvs:.c9)(k:κ):(lQ kvs k).length≤kvs.length:=List.length_filter_le _ _
end
theorem tu {P:.ai}{w:World}{k:Key}{u:Value}(r:RelV (kV k) u):(dh P w).is k u=true:=by
 cases k with
 |inl i=>obtain⟨t,e⟩:=(show ∃t,u=Value.int i t from r);subst e;exact Ao P w i t
 |inr x=>obtain⟨t,e⟩:=(show ∃t,u=Value.str x t from r);subst e;exact Ap P w x t
theorem wu {P:.ai}{w:World}:∀{ks:List Key} {us:.S},Vals (ks.map kV) us->ItemsAre (dh P w) ks us
 |[],_,r=>by rw [List.map_nil] at r;cases r;exact .nil
 |k::ks,_,r=>by
  rw [zaf] at r
  cases r with
  |cons h t=>exact .cons (tu h) (wu t)
noncomputable abbrev KT (H:Hp):List (List Key×V)->List .di->Prop:=Paired fun p q=>p.1=q.1/\H q.2.1=some (.tup (p.1.map kV))/\RelV p.2 q.2.2
theorem KT.val {H:Hp}{kvs:.ds}{xs:List .di}(r:KT H kvs xs)(k:List Key):lI (m8 kvs k) ((atKey xs k).map (·.2)):=by
 induction r with
 |nil=>exact True.intro
 |@cons p q ps i h t A =>
  obtain⟨h1,_,h2⟩:=h
  by_cases e:p.1=k
  ·have j:q.1=k:=h1.symm.trans e
   have b:atKey (q::i) k=some q.2:=by simp [atKey,List.find?_cons,j]
   rw [mO e,b];exact h2
  ·have j:¬ q.1=k:=fun z=>e (h1.trans z)
   have b:atKey (q::i) k=atKey i k:=by simp [atKey,List.find?_cons,j]
   rw [mM e,b];exact A
theorem KT.repl {H:Hp}{kvs:.ds}{xs:List .di}(r:KT H kvs xs)(k:List Key){y:V}{u:Value}(S:RelV y u):
  KT H (kvs.map fun G=>if G.1=k then (G.1,y) else G) (xs.map (putAt k u)):=by
 induction r with
 |nil=>exact .nil
 |@cons p q ps i h t A =>
  rw [zaf,zaf]
  refine .cons ?_ A
  obtain⟨h1,h2,M⟩:=h
  unfold putAt
  by_cases e:p.1=k
  ·rw [if_pos e,.al (h1.symm.trans e)];exact⟨h1,h2,S⟩
  ·rw [if_neg e,if_neg (fun z=>e (h1.trans z))];exact⟨h1,h2,M⟩
theorem KT.put {H:Hp}{kvs:.ds}{xs:List .di}(r:KT H kvs xs)(k:List Key){b:Addr}{y:V}{u:Value}(hb:H b=some (.tup (k.map kV)))(S:RelV y u):
  KT H (putK kvs k y) (storedH xs k b u):=by
 have e:.eZ=(atKey xs k).isSome:=by
  rw [Bf,(r.val k).isSome_eq,zbK]
 unfold putK storedH
 rw [e]
 by_cases q:(atKey xs k).isSome=true
 ·rw [if_pos q,if_pos q];exact r.repl k S
 ·rw [if_neg q,if_neg q];exact Paired.snoc r ⟨rfl,hb,S⟩
theorem KT.keeps {H H':Hp}{kvs:.ds}{xs:List .di}(r:KT H kvs xs)(Y:∀b ys,H b=some (.tup ys)->H' b=some (.tup ys)):KT H' kvs xs:=
 Paired.mapP r fun _ _ z=>⟨z.1,Y _ _ z.2.1,z.2.2⟩
section
variable {P:.ai}{w:World}{H:Hp}{h:Heap}{a:Addr}
theorem LM {u:HO}(ok:.e9)(e:Rd H a u):di P w H h a u:=e.ok ok
theorem sU {kvs:.bv}(ok:.e9)(e:Rd H a .aF):kvs.length≤sizeLine/\(a == sysModules)=false/\∃vs,KV kvs vs/\h.DictOf (dh P w) a vs:=
 show di P w H h a .aF from LM ok e
theorem Dc {kvs:.bv}(ok:.e9)(e:H a=some .aF):kvs.length≤sizeLine/\(a == sysModules)=false/\∃vs,KV kvs vs/\h.DictOf (dh P w) a vs:=sU ok (.inl e)
theorem tw {ks:List Key}(ok:.e9)(e:H a=some (.tup (ks.map kV))):(tupleKind (dh P w)).is h ks a:=by
 obtain⟨_,G,r,o,h1,h2,n,M⟩:=(show di P w H h a (.tup (ks.map kV)) from ok a _ e)
 exact⟨o,G.toArray,n,h1,h2,M,by simpa using wu r⟩
theorem wd {kvs:.ds}(ok:.e9)(e:Rd H a (.dT kvs)):kvs.length≤sizeLine/\(a == sysModules)=false /\
  ∃xs,KT H kvs xs/\h.DictOfH (tupleKind (dh P w)) a xs:=by
 obtain⟨z,y,xs,r,o,es,ep,h1,h2,M,D,R⟩:=(show di P w H h a (.dT kvs) from LM ok e)
 refine⟨z,y,xs,r,o,es,ep,h1,h2,M,D,fun x hx=>?_,R⟩
 have all:∀{l:.ds} {m:List .di},KT H l m->∀x∈m,(tupleKind (dh P w)).is h x.1 x.2.1:=by
  intro l m q
  induction q with
  |nil=>intro x hx;exact nomatch hx
  |@cons p q ps i hq t A =>
   intro x hx
   rcases zao.mp hx with e | hx
   ·subst e
    exact tw ok (by rw [<- hq.1];exact hq.2.1)
   ·exact A x hx
 exact all r x hx
theorem OS {kvs:.ds}(ok:.e9)(e:H a=some (.dT kvs)):kvs.length≤sizeLine/\(a == sysModules)=false /\
  ∃xs,KT H kvs xs/\h.DictOfH (tupleKind (dh P w)) a xs:=wd ok (.inl e)
end
noncomputable def w5 (H:Hp)(a:Addr)(y:V)(r:Option V):Prop:=
 (∃kvs k,Rd H a .aF/\y=kV k/\r=m8 kvs k)\/∃kvs k b,Rd H a (.dT kvs)/\y=.ref b/\H b=some (.tup (k.map kV))/\r=m8 kvs k
noncomputable def Gf (H:Hp)(a:Addr)(y v:V)(H':Hp):Prop:=
 (∃kvs k,H a=some .aF/\y=kV k/\kvs.length<sizeLine/\H'=upd H a (.dK (putK kvs k v))) \/
 ∃kvs k b,H a=some (.dT kvs)/\y=.ref b/\H b=some (.tup (k.map kV))/\kvs.length<sizeLine/\H'=upd H a (.dT (putK kvs k v))
theorem w5.k {H:Hp}{a:Addr}{kvs:.bv}{k:Key}(e:H a=some .aF):w5 H a (kV k) (m8 kvs k):=.inl ⟨kvs,k,.inl e,rfl,rfl⟩
theorem Gf.k {H:Hp}{a:Addr}{kvs:.bv}{k:Key}{v:V}(e:H a=some .aF)(hl:kvs.length<sizeLine):Gf H a (kV k) v (.Y a (.dK (putK kvs k v))):=.inl ⟨kvs,k,e,rfl,hl,rfl⟩
section
variable {X:Cx}{pins:.s}{σ:St}{H:Hp}{s:Shared}{a:Addr}{y v:V}{u r:Value}{o:Option V}{A:Around}{E:.n}
theorem Inv.big (I:.q):sysModules<s.heap.objs.size:=by
 have h:mainGlobals<s.heap.objs.size:=(I.mod.glob.keeps I.bk).lt
 exact zaZ .e h
theorem EM {Q:.n}(hu:A.units+1<cLine)(I:.q)(g:w5 H a y .cY)(S:RelV y u)(h:∀B s',Inv X pins σ H s'->RelV v B->Q B s'):
  wpAny .o A (getItem (.d a) u) Q E s:=by
 rcases g with ⟨kvs,k,e,n,l⟩ | ⟨kvs,k,b,e,n,C,l⟩
 ·subst n
  obtain⟨z,hd,vs,rel,dd⟩:=sU I.hok e
  obtain⟨B,hw,c⟩:=lI.some_of (v:=v) (o:=valueAt vs k) (by rw [l];exact rel.val k)
  exact wpAny_getItem_of (tu S) dd.mapOf hw (h B _ (I.tok _) c)
 ·subst n
  cases (show u=Value.ref b from S)
  obtain⟨z,hd,xs,rel,dd⟩:=wd I.hok e
  obtain⟨B,hw,c⟩:=lI.some_of (v:=v) (o:=(atKey xs k).map (·.2)) (by rw [l];exact rel.val k)
  obtain⟨p,hp,j⟩:=Option.map_eq_some_iff.mp hw
  refine wpAny_getItem_heap .hr (tw I.hok C) dd hp ?_
  rw [j]
  exact h B _ (I.tok _) c
theorem OO {Q:.n}(hu:A.units+1<cLine)(I:.q)(g:w5 H a y o)(S:RelV y u)(h:∀s',Inv X pins σ H s'->Q (.bool o.isSome) s'):
  wpAny .o A (compareOp .In u (.d a)) Q E s:=by
 rcases g with ⟨kvs,k,e,n,l⟩ | ⟨kvs,k,b,e,n,C,l⟩
 ·subst n
  obtain⟨z,hd,vs,rel,dd⟩:=sU I.hok e
  refine wpAny_in_of (tu S) hd dd.mapOf ?_
  rw [<- (rel.val k).isSome_eq,<- l]
  exact h _ (I.tok _)
 ·subst n
  cases (show u=Value.ref b from S)
  obtain⟨z,hd,xs,rel,dd⟩:=wd I.hok e
  refine wpAny_in_heap .hr (tw I.hok C) hd dd ?_
  have q:=(rel.val k).isSome_eq
  rw [zbK] at q
  rw [<- q,<- l]
  exact h _ (I.tok _)
theorem JA {Q:.n}(hu:A.units+1<cLine)(I:.q)(g:w5 H a y o)(S:RelV y u)(h:∀s',Inv X pins σ H s'->Q (.bool (!o.isSome)) s'):
  wpAny .o A (compareOp .NotIn u (.d a)) Q E s:=by
 rcases g with ⟨kvs,k,e,n,l⟩ | ⟨kvs,k,b,e,n,C,l⟩
 ·subst n
  obtain⟨z,hd,vs,rel,dd⟩:=sU I.hok e
  refine wpAny_notIn_of (tu S) hd dd.mapOf ?_
  rw [<- (rel.val k).isSome_eq,<- l]
  exact h _ (I.tok _)
 ·subst n
  cases (show u=Value.ref b from S)
  obtain⟨z,hd,xs,rel,dd⟩:=wd I.hok e
  refine wpAny_notIn_heap .hr (tw I.hok C) hd dd ?_
  have q:=(rel.val k).isSome_eq
  rw [zbK] at q
  rw [<- q,<- l]
  exact h _ (I.tok _)
theorem rL {h':Heap}{t':Nat}{ob:HO}(I:.q)(f:Ox (H a))(hs:Heap.SameBut a s.heap h')(he:∃q,h'.get? a=some q)(new:di X.prog X.w (.Y a ob) h' a ob):
  Inv X pins σ (.Y a ob) { s with heap:=h',toks:=t' }:=
 I.write (x:=a) (e:=a) f .bc (fun b q hb z=>(hs.2 b hb).trans z) he new
theorem BE {P:.ai}{w:World}{H':Hp}{h':Heap}{kvs:.bv}{vs:List (Key×Value)}(z:kvs.length≤sizeLine)(hd:(a == sysModules)=false)(b:.iM)(dd:h'.DictOf (dh P w) a vs):
  di P w H' h' a .aF:=⟨z,hd,vs,b,dd⟩
theorem EN {H':Hp}{Q:.dR}(hu:A.units+1<cLine)(I:.q)(g:Gf H a y v H')(S:RelV y u)(f:RelV v r)(h:∀s',Inv X pins σ H' s'->Q () s'):
  wpAny .o A (setItem (.d a) u r) Q E s:=by
 rcases g with ⟨kvs,k,e,n,l,d⟩ | ⟨kvs,k,b,e,n,C,l,d⟩
 ·subst n d
  obtain⟨z,hd,vs,rel,dd⟩:=Dc I.hok e
  have hz:vs.length≤sizeLine:=by rw [<- rel.length];exact z
  have hl:.hV:=by have:=md kvs k v;omega
  refine wpAny_setItem_pairs (hsz:=hz) (tu S) dd fun h' j hs=>h _ ?_
  have he:∃q,h'.get? a=some q:=let ⟨q,_,_,hq,_⟩:=j;⟨q,hq⟩
  exact rL I .d4 hs he (BE hl hd (rel.put k f) j)
 ·subst n d
  cases (show u=Value.ref b from S)
  obtain⟨z,hd,xs,rel,dd⟩:=OS I.hok e
  have hz:xs.length≤sizeLine:=by rw [<- Paired.length rel];exact z
  have hl:.hV:=by have:=md kvs k v;omega
  refine wpAny_setItem_heap (hsz:=hz) .hr (tw I.hok C) dd fun h' j hs=>h _ ?_
  obtain⟨q,es,ep,hq,h2,M,D,_,R⟩:=j
  refine rL I .d4 hs ⟨q,hq⟩ ⟨hl,hd,_,(rel.put k C f).keeps fun c ys w=>?_,q,es,ep,hq,h2,M,D,R⟩
  rw [ay (PB w e .a6)]
  exact w
end
section
variable {X:Cx}{pins:.s}{σ:St}{H:Hp}{s:Shared}{a:Addr}{kvs:.bv}{k:Key}{u:Value}{A:Around}{E:.n}
theorem OQ {v:V}{more:.S}{Q:.n}(I:.q)(e:H a=some .aF)(S:RelV (kV k) u)(l:m8 kvs k=some v)(hm:more=[]\/∃x,more=[x])
  (h:∀B s',Inv X pins σ (.Y a (.dK (lQ kvs k))) s'->RelV v B->Q B s'):wpAny .o A (call (.builtin "dict.pop") (.ref a::u::more)) Q E s:=by
 obtain⟨z,hd,vs,rel,dd⟩:=Dc I.hok e
 obtain⟨B,hw,c⟩:=lI.some_of (v:=v) (o:=valueAt vs k) (by rw [<- l];exact rel.val k)
 have hp:(keyPart u).isSome=true:=by
  cases k with
  |inl i=>obtain⟨t,q⟩:=(show ∃t,u=Value.int i t from S);subst q;rfl
  |inr x=>obtain⟨t,q⟩:=(show ∃t,u=Value.str x t from S);subst q;rfl
 have ha:argsOk "dict.pop" ⟨.ref a::u::more,[]⟩:=by
  rcases hm with q | ⟨x,q⟩
  ·subst q;exact PySem.F.args_dict_pop_2 _ _
  ·subst q;exact PySem.F.args_dict_pop_3 _ _ _
 refine call_meetsIn PySem.F.slot_dict_pop dd.typeIs PySem.F.entry_dict_pop ha (meets_dict_pop_there (dh X.prog X.w) a (tu S) more hm hp)
  ⟨vs,B,dd,by rw [<- rel.length];exact z,hw,fun h' j hs=>h B _ ?_ c⟩
 have he:∃q,h'.get? a=some q:=let ⟨q,_,_,hq,_⟩:=j;⟨q,hq⟩
 exact rL I .d4 hs he (BE (zaz (GF kvs k) z) hd (rel.drop k) j)
theorem OP {Q:.n}(I:.q)(e:Rd H a .aF)(h:∀t s',Inv X pins σ H s'->Q (.int kvs.length t) s'):wpAny .o A (call .gz [.ref a]) Q E s:=by
 obtain⟨z,hd,vs,rel,dd⟩:=sU I.hok e
 refine call_len_dict hd dd (by rw [<- rel.length];rw [sizeLine_eq] at z;omega) ?_
 rw [<- rel.length]
 exact h _ _ (I.tok _)
end
def LU (i:Expr):Prop:=∀Z b,subscripted i false Z b=operate [Z,b] (getItem Z b)
theorem K6 {prog:.ai}{w:World}{A:Around}{E:.n}{s:Shared}{env:Env}{value slice:Expr}{pos:Pos}{T id:String}{Q:.n}
  (hl:typeLookup (.type T) "__getitem__" = pure (.aX .d5)) (hs:LU slice)
  (h:wpAny .O A (eval value env) (fun o g=>wpAny .O A (eval slice env) (fun i d=>d.TypeIs o T/\wpAny .O A (getItem o i) Q E d) E g) E s):
  wpAny .O A (eval (.X value slice) env) Q E s:=by
 refine Subscript_ (wpAny_mono h (fun o g k=>wpAny_mono k (fun i d f=>?_) fun _ _ x=>x) fun _ _ x=>x)
 obtain⟨t,f⟩:=f
 unfold subscriptTail
 refine wpAny_bind ?_
 rw [getitemInPython_of_ne t.not_modules]
 refine .f (wpAny_specialOf t hl ?_)
 have fin:wpAny .O A (subscripted slice false o i) (fun r c=>wpAny .O A (letTemporaryGo value o r >>= fun _=>pure r) Q E c) E d:=by
  rw [hs o i]
  exact wpAny_operating (wpAny_mono f (fun r c j=>.f (wpAny_letTemporaryGo (.ah j))) fun _ _ x=>x)
 first
  |exact wpAny_pure (.L fin)
  |exact wpAny_bind (.ah (.L fin))
  |exact wpAny_bind fin
theorem zA {X:Cx}{pins:.s}{σ:St}{H:Hp}{s:Shared}{a:Addr}{y:V}{o:Option V}(I:.q)(g:w5 H a y o):s.TypeIs (.d a) "dict" := by
 rcases g with ⟨kvs,k,e,_,_⟩ | ⟨kvs,k,b,e,_,_,_⟩
 ·obtain⟨_,_,vs,_,dd⟩:=sU I.hok e
  exact dd.typeIs
 ·obtain⟨_,_,xs,_,dd⟩:=wd I.hok e
  exact dd.typeIs
noncomputable def Qt (td ty:TE):TE:=fun σ H Q=>td σ H fun x H1=>ty σ H1 fun y H2=>∃a v,x=.ref a/\w5 H2 a y .cY/\Q v H2
noncomputable def S0 (ty td:TE):TE:=fun σ H Q=>ty σ H fun y H1=>td σ H1 fun x H2=>∃a o,x=.ref a/\w5 H2 a y o/\Q (.bl o.isSome) H2
noncomputable def Qi (td ty tv:TE):TS:=fun D σ H=>tv σ H fun v H1=>td σ H1 fun x H2=>ty σ H2 fun y H3=>∃a R,x=.ref a/\Gf H3 a y v R/\D.nx σ R
section
variable {X:Cx}{o i e value:Expr}{pos pos' tpos:Pos}{td ty tv:TE}
theorem Kt (hu:X.A.units+1<cLine)(ho:PE X o td)(hi:PE X i ty)(hs:LU i):PE X (.X o i) (Qt td ty):=by
 intro pins s σ H Q I h
 refine K6 PySem.F.slot_dict_getitem.lookup hs (cF .hR fun u s1 ⟨x,H1,O,N,q1⟩=>cF (hi pins s1 σ H1 _ O q1) fun b s2 ⟨y,H2,M,S,a,v,ex,g,q2⟩=>?_)
 subst ex
 obtain rfl:u=Value.ref a:=N
 exact⟨zA M g,EM hu M g S fun B C A c=>⟨v,H2,A,c,q2⟩⟩
theorem MV (hu:X.A.units+1<cLine)(hi:PE X i ty)(ho:PE X o td):PC X .In i o (S0 ty td):=by
 intro pins s σ H Q I h
 refine cF (hi pins s σ H _ I h) fun b s1 ⟨y,H1,O,S,q1⟩=>cF (ho pins s1 σ H1 _ O q1) fun u s2 ⟨x,H2,M,N,a,Z,ex,g,q2⟩=>?_
 subst ex
 obtain rfl:u=Value.ref a:=N
 exact OO hu M g S fun C A=>⟨.bl Z.isSome,H2,A,rfl,q2⟩
theorem KC (hu:X.A.units+1<cLine)(ho:PE X o td)(hi:PE X i ty)(Z:PE X value tv)(hs:swapsWith value (.aX (.Subscript o i pos')) pos.line X.env=pure false):
  PS X (.Assign [.Subscript o i pos'] value pos) (Qi td ty tv):=by
 intro pins s σ H D I h
 refine wpAny_Assign_Subscript (cF (Z pins s σ H _ I h) fun r s1 ⟨v,H1,O,f,q1⟩=>cF (ho pins s1 σ H1 _ O q1) fun u s2 ⟨x,H2,M,N,q2⟩=>cF (hi pins s2 σ H2 _ M q2) fun b C ⟨y,H3,A,S,a,R,ex,g,q3⟩=>?_) hs
 subst ex
 obtain rfl:u=Value.ref a:=N
 exact EN hu A g S f fun P t=>⟨σ,R,t,q3⟩
end
theorem zB {P:.ai}{w:World}{H:Hp}(h:Heap)(hb:sysModules<h.objs.size):di P w H (h.push { cls:=.type "dict", data:=.dict #[] }) h.objs.size (.dK []):=
 ⟨zaU _,beq_eq_false_iff_ne.mpr (.bf (zas hb)),[],.nil,Heap.DictOf.new h⟩
def NK:TE:=fun _ H Q=>∀p,H p=none->Q (.d p) (.Y p (.dK []))
section
variable {X:Cx}{pos:Pos}
theorem Im:PE X (.Dict [] [] pos) NK:=fun pins s σ H Q I h =>
 wpAny_Dict_empty ⟨.ref s.heap.objs.size,_,I.laid (a:=s.heap.objs.size) (o:=.dK []) (t':=s.toks) (fun _ _ q=> .bD) .bJ (zB s.heap I.big),rfl,h _ .ge⟩
end
structure M1 (X:Cx)(o:Expr)(m:Str)(apos:Pos)(e:Expr)(cpos:Pos):Prop where
 base:attributeBase o m X.env (.V o)=eval o X.env
 few:((backTo cpos .iW).all (fun x=>!x.1)&&(backToKw cpos .cR).all .gH
  && decide (([e]:List Expr).length+([]:List Keyword).length+(if ([]:List Keyword).isEmpty then 0 else 1)<30))=true
 line:.dh=true
 trees:backTo cpos .iW=[(.p e)]
def Tr (H:Hp)(a:Addr):Prop:=(∃kvs,Rd H a .aF)\/∃kvs,Rd H a (.dT kvs)
theorem Hj {X:Cx}{pins:.s}{σ:St}{H:Hp}{s:Shared}{a:Addr}(I:.q)(d:Tr H a):
  s.TypeIs (.d a) "dict"/\(∀b,Value.ref a=.ref b->∃ob,s.heap.get? b=some ob/\ob.dict=none)/\(a == sysModules)=false:=by
 rcases d with ⟨kvs,e⟩ | ⟨kvs,e⟩
 ·obtain⟨_,hd,vs,_,dd⟩:=sU I.hok e
  refine⟨dd.typeIs,fun b q=>?_,hd⟩
  cases q
  obtain⟨ob,_,_,h1,h2,_⟩:=dd
  exact⟨ob,h1,h2.2.1⟩
 ·obtain⟨_,hd,xs,_,dd⟩:=wd I.hok e
  refine⟨dd.typeIs,fun b q=>?_,hd⟩
  cases q
  obtain⟨ob,_,_,h1,h2,_⟩:=dd
  exact⟨ob,h1,h2.2.1⟩
section
variable {X:Cx}{pins:.s}{σ:St}{H:Hp}{s:Shared}{a:Addr}{y d:V}{u r:Value}{o:Option V}{A:Around}{E:.n}
end
noncomputable def NL (td ty:TE):TE:=fun σ H Q=>td σ H fun x H1=>∃a,x=.ref a/\Tr H1 a/\ty σ H1 fun y H2=>∃kvs k v,H2 a=some .aF/\y=kV k/\m8 kvs k=some v/\Q v (upd H2 a (.dK (lQ kvs k)))
section
variable {X:Cx}{o e f:Expr}{apos cpos:Pos}{td ty tx:TE}
theorem Io (ho:PE X o td)(he:PE X e ty)(m:M1 X o "pop" apos e cpos):PE X (.Call (.Attribute o "pop" apos) [e] [] cpos) (NL td ty):=by
 intro pins s σ H Q I h
 refine wpAny_Call_method m.base m.few m.line PySem.F.plainAttrs_dict PySem.F.slot_dict_pop PySem.F.type_dict_pop (cF .hR fun u s1 ⟨x,H1,O,N,a,ex,d,q1⟩=>?_)
 subst ex
 obtain rfl:u=Value.ref a:=N
 obtain⟨t1,t2,_⟩:=Hj O d
 refine⟨t1,t2,?_⟩
 rw [m.trees]
 refine Calls.callWith_builtin rfl (Calls.evalArgs_plain (Calls.spliced_cons (cF (he pins s1 σ H1 _ O q1) fun b s2 ⟨y,H2,M,S,kvs,k,v,R,n,l,q2⟩=>Calls.spliced_nil ?_)))
 subst n
 exact OQ M R S l .bc fun B C A c=>⟨v,_,A,c,q2⟩
end
section
variable {X:Cx}{pins:.s}{σ:St}{H:Hp}{s:Shared}{a:Addr}{kvs:.bv}{A:Around}{E:.n}
end
section
variable {X:Cx}{pins:.s}{σ:St}{H:Hp}{s:Shared}{a:Addr}{y:V}{u:Value}{A:Around}{E:.n}
end
end L2
namespace TM
open PySem PySem.Spec PyProof.Rows L2
noncomputable def EK:List Str->List T->Str->Option T
 |n::ns,t::ts,x=>if n=x then some t else EK ns ts x
 |_,_,_=>none
def fQ:List Str->Str->Bool
 |[],_=>false
 |n::ns,x=>if n=x then true else fQ ns x
theorem CI {K:.j}{F:Hp}{x:Str}{t:T}:∀{ns:.U} {ts:List T} {vs:List V},aM K F ts vs->EK ns ts x=some t->∃y,m8 .gb (.inr x)=some y/\Rep K F t y
 |[],_,_,_,e=>by cases e
 |_::_,[],_,_,e=>by cases e
 |n::ns,u::ts,vs,r,e=>by
  obtain⟨v,a,rfl,h1,h2⟩:=r
  unfold EK at e
  split at e
  ·next h=>cases e;subst h;exact⟨v,mO rfl,h1⟩
  ·next h =>
   obtain⟨y,k1,k2⟩:=CI h2 e
   exact⟨y,by rw [bx,mM (fun z=>h .gx)];exact k1,k2⟩
theorem xF {x:Str}:∀{ns:.U} {vs:List V},vs.length=ns.length->(m8 .gb (.inr x)).isSome=fQ ns x
 |[],vs,_=>by
  cases vs with
  |nil=>rfl
  |cons v vs=>rfl
 |n::ns,[],h=>by cases h
 |n::ns,v::vs,h=>by
  unfold fQ
  split
  ·next e=>subst e;rw [bx,mO rfl];rfl
  ·next e=>rw [bx,mM (fun z=>e .gx)];exact xF .au
section
variable {X:Cx}{d k:Expr}{pos:Pos}{fd fk:FE}
def qL:T->T->Option T
 | .dct ns ts,.str x=>EK ns ts x
 |_,_=>none
theorem ET {p z t:T}(h:qL p z=some t):∃ns ts x,p=.dct ns ts/\z=.str x/\EK ns ts x=some t:=by
 unfold qL at h
 split at h
 ·exact⟨_,_,_,rfl,rfl,h⟩
 ·cases h
theorem D8 (hu:.bi)(hd:SE X d fd)(hk:SE X k fk)(hs:LU k):SE X (.X d k) (ar qL fd fk):=fun Y0 Y9=>PE.weak (Kt .d (hd Y0 Y9) (hk Y0 Y9) hs) fun σ H Q G=>by
 obtain⟨F,τ,t,τ',E,e1,q⟩:=G
 obtain⟨⟨p,τ1⟩,e2,e1⟩:=bind_some e1
 obtain⟨⟨z,τ2⟩,e3,e1⟩:=bind_some e1
 obtain⟨u,e4,e1⟩:=bind_some e1
 cases e1
 obtain⟨ns,ts,x,rfl,rfl,e5⟩:=ET e4
 refine⟨F,τ,_,τ1,E,e2,fun F1 H1 l V s1 r1=>⟨F1,τ1,_,_,V,e3,fun F2 H2 i O s2 r2=>?_⟩⟩
 obtain⟨a,ob,vs,rfl,h1,h2,M⟩:=Rep.mono s2 r1
 cases r2
 obtain⟨y,k1,k2⟩:=CI M e5
 exact⟨a,y,rfl,.inl ⟨_,.inr x,.a1 ⟨ob,O.g.fh _ _ h1⟩,rfl,k1.symm⟩,q F2 H2 y O .a5 k2⟩
noncomputable def jX (neg:Bool):T->T->Option T
 | .str x,.dct ns _=>some (.bl (xor neg (fQ ns x)))
 |_,_=>none
theorem zM {neg:Bool}{p z t:T}(h:jX neg z p=some t):∃ns ts x,p=.dct ns ts/\z=.str x/\t=.bl (xor neg (fQ ns x)):=by
 unfold jX at h
 split at h
 ·cases h;exact⟨_,_,_,rfl,rfl,rfl⟩
 ·cases h
theorem HV (hu:.bi):lh X (.ag .In) (jX false):=fun pins s σ H x y v u Q I N S G=>by
 obtain⟨F,a,b,t,R,r1,r2,e,q⟩:=G
 obtain⟨ns,ts,z,rfl,rfl,rfl⟩:=zM e
 cases r1
 obtain⟨p,ob,vs,rfl,h1,h2,M⟩:=r2
 cases S
 refine OO .d I (.inl ⟨_,.inr z,.a1 ⟨ob,R _ _ h1⟩,rfl,rfl⟩) N fun s' j=>⟨.bl _,H,j,rfl,?_⟩
 refine q F H _ .ao ?_
 rw [xF h2,Bool.false_xor]
 rfl
theorem wB (hu:.bi):lh X (compareOp .NotIn) (jX true):=fun pins s σ H x y v u Q I N S G=>by
 obtain⟨F,a,b,t,R,r1,r2,e,q⟩:=G
 obtain⟨ns,ts,z,rfl,rfl,rfl⟩:=zM e
 cases r1
 obtain⟨p,ob,vs,rfl,h1,h2,M⟩:=r2
 cases S
 refine JA .d I (.inl ⟨_,.inr z,.a1 ⟨ob,R _ _ h1⟩,rfl,rfl⟩) N fun s' j=>⟨.bl _,H,j,rfl,?_⟩
 refine q F H _ .ao ?_
 rw [xF h2,Bool.true_xor]
 rfl
def oN:List T->Option T
 |[.dct ns _]=>some (.int ns.length)
 |ts=>bJ ts
theorem jo:∀{ns:.U} {vs:List V},vs.length=ns.length->(bx ns vs).length=ns.length
 |[],[],_=>rfl
 |_::_,[],h=>by cases h
 |[],_::_,h=>by cases h
 |n::ns,v::vs,h=>by
  rw [bx,List.length_cons,List.length_cons,jo .au]
theorem EH:fR X .gz (fun xs H Q=>∃a kvs,xs=[.ref a]/\Rd H a .aF/\Q (.int kvs.length) H):=by
 intro pins s σ H xs us Q I r h
 obtain⟨p,kvs,rfl,hq,q⟩:=h
 obtain⟨u,rfl,N⟩:=vals1 r
 cases N
 exact OP I hq fun t s' j=>⟨.int kvs.length,H,j,⟨t,rfl⟩,q⟩
theorem C3:gf X .gz oN:=fun pins s σ H xs us Q I N G=>by
 obtain⟨F,ts,t,R,r,e,q⟩:=G
 unfold oN at e
 split at e
 ·next ns J =>
  cases e
  obtain⟨v,y,rfl,⟨a,ob,vs,rfl,h1,h2,M⟩,rfl⟩:=r
  refine EH pins s σ H _ us Q I N ⟨a,_,rfl,.a1 ⟨ob,R _ _ h1⟩,?_⟩
  rw [jo h2]
  exact .er
 ·exact cg pins s σ H xs us Q I N ⟨F,ts,t,R,r,e,q⟩
end
end TM
namespace L2
open PySem PySem.Spec PyProof.Rows
section
variable {X:Cx}{pins:.s}{σ:St}{H:Hp}{s:Shared}{p:Addr}{kvs:.bv}
theorem Inv.freeze (I:.q)(e:H p=some .aF):∃o,Inv X pins σ (.Y p .ch) s:=by
 have q:=I.hok p _ e
 obtain⟨z,hd,vs,rel,dd⟩:=Dc I.hok e
 obtain⟨o,es,ep,ho,r⟩:=id dd
 have ne:∀b u,H b=some u->(∀kvs,u≠.dK kvs)->b≠p:=fun b u C n z=>by
  subst z;rw [e] at C;cases C;exact n _ rfl
 have a:∀b xs,H b=some .dZ->upd H p .ch b=some .dZ:=fun b xs C=>by rw [ay .im];exact C
 have hok:lF X.prog X.w (.Y p .ch) s.heap:=fun b u C=>by
  by_cases hb:b=p
  ·subst hb
   rw [aF] at C;cases C
   exact⟨ho,q.stay (fun _ _ _ k=>k) (fun c k=>by rw [ay (ne c _ k fun _ z=>by cases z)];exact k) a⟩
  ·rw [ay hb] at C
   exact (I.hok b u C).stay (fun _ _ _ k=>k) (fun c k=>by rw [ay (ne c _ k fun _ z=>by cases z)];exact k) a
 refine⟨o,I.step (g':=s.gens) (d':=s.drawn) (t':=s.toks) (h':=s.heap) (ch:=[]) (fun b hb=>nomatch hb) (fun b o _ _ _ k _=>k) (fun b o _ _ _ k _=>⟨o.slots,k⟩) (fun b o _ k n=>?_) (fun b o _ k=>⟨o,k⟩) a (fun b o' u C=>?_) (fun b ps C=>⟨#[],?_⟩) (fun m hm=>hm) hok I.bare⟩
 ·rw [ay (fun z=>by subst z;rw [e] at n;cases n)];exact n
 ·rw [ay .im];exact C
 ·rw [ay .im,C];simp
end
noncomputable def RK (d:Addr)(o:Obj)(kvs:.bv):It:=
 ⟨fun i H=>H d=some .ch/\i<kvs.length,fun i H x H'=>H'=H/\∃G,kvs[i]? = some G/\x=kV G.1,fun i H=>H d=some .ch/\i=kvs.length⟩
theorem DY {P:.ai}{w:World}{k:Key}{u:Value}(h:(dh P w).is k u=true):RelV (kV k) u:=by
 cases k with
 |inl i=>obtain⟨t,rfl⟩:=Value.isInt_shape (show Value.isInt i u=true from h);exact⟨t,rfl⟩
 |inr x=>obtain⟨t,rfl⟩:=Value.isStrOf_shape (show Value.isStrOf x u=true from h);exact⟨t,rfl⟩
theorem p7 {X:Cx}{pins:.s}{σ:St}{H:Hp}{s:Shared}{d:Addr}{o:Obj}{kvs:.bv}{es:Array DictEntry}{ep:Nat}(I:.q)(e:H d=some .ch)(ho:o.data=.dict es ep):
  ∃vs,KV kvs vs/\s.heap.DictAt (dh X.prog X.w) d vs ep:=by
 obtain⟨h1,h2⟩:=I.hok d _ e
 obtain⟨z,hd,vs,rel,o',i,j,k1,k2,k3,N⟩:=h2
 rw [h1] at k1;cases k1
 rw [ho] at k3;cases k3
 exact⟨vs,rel,o,es,h1,k2,ho,N⟩
theorem FL {P:.ai}{w:World}{K:.j}{tg:Expr}(it d:Addr)(o:Obj)(es:Array DictEntry)(ep:Nat)(ho:o.data=.dict es ep)(kvs:.bv):Turn P w K tg (RK d o kvs) [it] it (fun i h=>h.IsKeyIter it d i kvs.length ep) where
 mem:=.f
 obj:=fun i h st b hb=>by
  have e:b=it:=by simpa using hb
  subst e
  obtain⟨o,e,c,d⟩:=st
  exact⟨o,e,fun v z=>by rw [d] at z;cases z⟩
 keep:=fun i h h' st k=>by obtain⟨o,e,r⟩:=st;exact⟨o,k it .f o e,r⟩
 item:=by
  intro X j B T U i pins s σ H E I hf st L
  subst j B T
  obtain⟨f0,f1,f2,M,f4,F⟩:=hf it .f
  obtain⟨e,hi⟩:=L
  obtain⟨vs,rel,dd⟩:=p7 I e ho
  have hlen:=rel.length
  obtain⟨⟨k,v⟩,hx⟩:∃p,vs[i]? = some p:=⟨vs[i],.f⟩
  rw [hlen] at st
  refine wpAny_pyNext_dict_item st dd hx fun key h' g f N=>?_
  have O:.bo:=I.turned (t':=s.toks) (fun b o hb e=>N.extBut b o hb e) f0 f1 M f4 F
  obtain⟨l,e2,c2,J⟩:=id f
  have y:∃G,kvs[i]? = some G/\G.1=k:=by
   have hk:=rel.keys
   have h1:(kvs.map (·.1))[i]? = some k:=by rw [hk,zaI,hx];rfl
   rw [zaI] at h1
   cases q:kvs[i]? with
   |none=>rw [q] at h1;cases h1
   |some G=>rw [q] at h1;cases h1;exact⟨G,rfl,rfl⟩
  obtain⟨G,y,rfl⟩:=y
  rw [<- hlen] at f
  exact⟨_,rfl,zP (s:={ s with heap:=h' }) e2 c2 J .e ⟨kV G.1,H,O,DY g,⟨rfl,G,y,rfl⟩,f,fun b hb=>(hf b hb).1⟩⟩
 done:=by
  intro X j B T U i pins s σ H E I hf st L
  subst j B T
  obtain⟨f0,f1,f2,M,f4,F⟩:=hf it .f
  obtain⟨e,rfl⟩:=L
  obtain⟨vs,rel,dd⟩:=p7 I e ho
  have hlen:=rel.length
  rw [hlen] at st
  exact wpAny_pyNext_dict_end .dk st dd .f fun h' kk=>⟨rfl,I.turned (t':=s.toks) (fun b o hb e=>kk b o hb e) f0 f1 M f4 F⟩
 self:=fun A i s Q E st h=>wpAny_pyIter_keyiter st h
section
variable {X:Cx}{tg l:Expr}
noncomputable def O9 (tl:TE):TI:=fun σ H R=>tl σ H fun x H1=>∃d o kvs,x=.ref d/\H1 d=some .ch/\R (RK d o kvs) H1
theorem Kx {tl:TE}(hl:PE X l tl):PI X tg l (O9 tl):=by
 intro pins s σ H R I h
 refine .l .fI
 obtain⟨d,o,kvs,rfl,e,q⟩:=q1
 cases r1
 obtain⟨h1,z,hd,vs,rel,o',es,ep,k1,k2,k3,N⟩:=O.hok d _ e
 rw [h1] at k1;cases k1
 obtain⟨u,a,dd⟩:=p7 O e k3
 refine wpAny_pyIter_dict hd dd ?_
 rw [<- a.length]
 refine⟨s1.heap.objs.size,.fg,_,_,H1,rfl,O.kept (t':=s1.toks) fun b o e=>Heap.get?_push_of_some _ e,FL _ d o es ep k3 kvs,.dz,fun b hb=>?_,q⟩
 have e:b=s1.heap.objs.size:=by simpa using hb
 subst e
 exact .ad .bJ
end
theorem KV.at {kvs:.bv}{vs:List (Key×Value)}(r:.iM):∀{i:Nat} {k:Key} {v:Value},vs[i]? = some (k,v)->∃G,kvs[i]? = some G/\G.1=k/\RelV G.2 v:=by
 induction r with
 |nil=>intro i k v e;cases i<;>cases e
 |cons h t A =>
  intro i k v e
  cases i with
  |zero=>cases e;exact⟨_,rfl,h.1,h.2⟩
  |succ i=>exact A .fK
theorem gR:entryFor table "dict_itemiterator.__iter__" = some Builtin.«dict_keyiterator.__iter__»:=
 entryFor_alias (id' := "dict_keyiterator.__iter__") .a rfl .c .a
noncomputable def RJ (d:Addr)(o:Obj)(kvs:.bv):It:=
 ⟨fun i H=>H d=some .ch/\i<kvs.length,fun i H x H'=>∃p G,x=.ref p/\H p=none/\kvs[i]? = some G/\H'=upd H p .gL,fun i H=>H d=some .ch/\i=kvs.length⟩
theorem CC {P:.ai}{w:World}{K:.j}{elts:.av}{kx:Nat}{px:Pos}(it d:Addr)(o:Obj)(es:Array DictEntry)(ep:Nat)(ho:o.data=.dict es ep)(kvs:.bv):
  Turn P w K .en (RJ d o kvs) [it] it (fun i h=>∃ok Z,IsItemIter h it d i kvs.length ep ok Z) where
 mem:=.f
 obj:=fun i h st b hb=>by
  have e:b=it:=by simpa using hb
  subst e
  obtain⟨ok,Z,st⟩:=st
  exact⟨_,st,fun v q=>nomatch (show Data.fields _=Data.cell v from q)⟩
 keep:=fun i h h' st k=>by obtain⟨ok,Z,st⟩:=st;exact⟨ok,Z,k it .f _ st⟩
 item:=by
  intro X j B T U i pins s σ H E I hf st L
  subst j B T
  obtain⟨f0,f1,f2,M,f4,F⟩:=hf it .f
  obtain⟨e,hi⟩:=L
  obtain⟨vs,rel,dd⟩:=p7 I e ho
  have hlen:=rel.length
  obtain⟨ok,Z,st⟩:=st
  obtain⟨⟨k,v⟩,hx⟩:∃p,vs[i]? = some p:=⟨vs[i],.f⟩
  obtain⟨G,y,rfl,f⟩:=rel.at hx
  rw [hlen] at st
  refine wpAny_pyNext_items_item st dd hx fun key h' g a1 a2 a3 Y=>⟨_,rfl,?_⟩
  refine wpAny_letOwnedTupleGo_items (s:={ s with heap:=h' }) a1 fun h2 b1 b2=>?_
  have kp:∀b o,b∉[it]->s.heap.get? b=some o->h2.get? b=some o:=fun b o hb e=>by
   have x:b≠it:=by simpa using hb
   exact b2.extBut _ _ x (Y b o x e)
  have z:it<s.heap.objs.size:=Heap.lt_size st
  have pr:h2.get? s.heap.objs.size=some { cls:=.type "tuple", data:=.seq #[key,v] }:=b2.extBut _ _ (zaW z) a2
  have fr:.cF:=I.hok.fresh .bJ
  have R:lF X.prog X.w (.J .gL) h2:=by
   intro c o e
   by_cases a:c=s.heap.objs.size
   ·subst a
    rw [aF] at e;cases e
    exact⟨by show 2≤sizeLine;decide,[key,v],.cons (DY g) (.aD f),_,pr,rfl,_,rfl⟩
   ·rw [ay a] at e
    have N:∀d o',H d=some o'->d∉[it]:=fun d o' l hd=>by rw [(hf d hd).1] at l;cases l
    have up:∀d o',H d=some o'->upd H s.heap.objs.size .gL d=some o':=fun d o' l=>by rw [ay (bg l fr)];exact l
    refine (I.hok c o e).stay .jA (fun d q=>up d _ q) fun d xs q=>up d _ q
    rcases hd with rfl | hd
    ·exact N _ o e
    ·exact N d _ hd
  have J:Inv X pins σ (.J .gL) { s with heap:=h2 }:=by
   have ne:∀b o,s.heap.get? b=some o->b≠s.heap.objs.size:=fun b o e=>zas .aJ
   refine I.step (g':=s.gens) (d':=s.drawn) (t':=s.toks) (ch:=[it]) (fun b hb=>?_) .h5 .e0 (fun b o _ e n=>by rw [ay (ne b o e)];exact n)
    .hv (fun b xs e=>by rw [ay .jE];exact e) (fun b o u e=>by rw [ay .jE];exact e) (fun b ps e=>⟨#[],by rw [ay .jE,e];simp⟩) (fun m hm=>?_) R I.bare
   ·obtain⟨_,f1,_,M,f4,F⟩:=hf b hb
    exact⟨M,f1,f4,F⟩
   ·obtain⟨o,es,ep,ho,r⟩:=hm
    exact⟨o,es,ep,kp _ o (fun q=>(hf _ q).2.1 rfl) ho,r⟩
  rw [<- hlen] at b1
  refine⟨.ref s.heap.objs.size,_,J,rfl,⟨_,G,rfl,fr,y,rfl⟩,⟨_,_,b1⟩,fun b hb=>?_⟩
  have e:b=it:=by simpa using hb
  subst e
  rw [ay (zas z)]
  exact f0
 done:=by
  intro X j B T U i pins s σ H E I hf st L
  subst j B T
  obtain⟨f0,f1,f2,M,f4,F⟩:=hf it .f
  obtain⟨e,rfl⟩:=L
  obtain⟨vs,rel,dd⟩:=p7 I e ho
  obtain⟨ok,Z,st⟩:=st
  have hlen:=rel.length
  rw [hlen] at st
  exact wpAny_pyNext_items_end .dk st dd .f fun h' kk=>⟨rfl,I.turned (t':=s.toks) (fun b o hb e=>kk b o hb e) f0 f1 M f4 F⟩
 self:=fun A i s Q E st h=>by
  obtain⟨ok,Z,st⟩:=st
  have t:s.TypeIs .hD "dict_itemiterator" := ⟨_,st,rfl⟩
  refine wpAny_pyIter_slot t zbm (wpAny_call_entry zbm t gR ?_ (PySem.F.args_dict_itemiterator_iter_1 _))
  show wpAny _ _ (ret .hD) _ _ s
  exact wpAny_pure ⟨_,rfl,"dict_itemiterator", _,t,PySem.F.slot_dict_itemiterator_next.lookup,h⟩
section
variable {X:Cx}{l:Expr}{elts:.av}{kx:Nat}{px apos cpos:Pos}
noncomputable def Mu (tl:TE):TI:=fun σ H R=>tl σ H fun x H1=>∃d o kvs,x=.ref d/\H1 d=some .ch/\R (RJ d o kvs) H1
theorem Iv {tl:TE}(hl:PE X l tl)(C:attributeBase l "items" X.env (.V l)=eval l X.env:=by rfl)(n:.dh=true:=by rfl):PI X .en (.Call (.Attribute l "items" apos) [] [] cpos) (Mu tl):=by
 intro pins s σ H R I h
 refine wpAny_Call_method0_late C n (.l .fI)
 obtain⟨d,o,kvs,rfl,e,q⟩:=q1
 cases r1
 obtain⟨t1,t2,_⟩:=Hj O (.inl ⟨kvs,.inr ⟨o,e⟩⟩)
 refine⟨"dict","dict.items", PySem.F.plainAttrs_dict,PySem.F.slot_dict_items,PySem.F.type_dict_items,t1,t2,Calls.callWith_builtin rfl (PySem.evalArgs_none ?_)⟩
 obtain⟨h1,z,hd,vs,rel,o',es,ep,k1,k2,k3,N⟩:=O.hok d _ e
 rw [h1] at k1;cases k1
 obtain⟨u,a,dd⟩:=p7 O e k3
 refine call_meetsIn PySem.F.slot_dict_items t1 PySem.F.entry_dict_items (PySem.F.args_dict_items_1 _) (meets_dict_items (dh X.prog X.w) d hd) ⟨⟨u,dd.dictOf⟩,?_⟩
 refine wpAny_pyIter_items (v:=s1.heap.objs.size) .dz (dd.push _) ?_
 rw [<- a.length]
 have J:=O.kept (t':=s1.toks) (h':=(s1.heap.push { cls:=.type "dict_items", data:=.fields #[.ref d] }).push { cls:=.type "dict_itemiterator", data:=.fields #[.none,.bool false,.ref d,.int 0 0,.int kvs.length 0,.int ep 0,.none,.none] }) fun b o e=>Heap.get?_push_of_some _ (.X e)
 refine⟨_,[_],_,_,H1,rfl,J,CC _ d o es ep k3 kvs,⟨_,_,.ac⟩,fun b hb=>?_,q⟩
 have e:b=(s1.heap.push { cls:=.type "dict_items", data:=.fields #[.ref d] }).objs.size:=by simpa using hb
 subst e
 have hz:s1.heap.objs.size≤(s1.heap.push { cls:=.type "dict_items", data:=.fields #[.ref d] }).objs.size:=by rw [Heap.size_push];omega
 exact .ad hz
end
end L2
namespace TM
open PySem PySem.Spec PyProof.Rows L2
theorem B8 {K:.j}{F:Hp}:∀{ns:.U} {ts:List T} {vs:List V} {i:Nat} {G:Key×V},aM K F ts vs->vs.length=ns.length->(bx ns vs)[i]? = some G->∃n t,ns[i]? = some n/\ts[i]? = some t/\G.1=.inr n/\Rep K F t G.2
 |[],_,vs,i,G,_,h,e=>by cases vs with | nil=>simp [bx] at e | cons v vs=>cases h
 |n::ns,ts,[],i,G,_,h,e=>by cases h
 |n::ns,[],v::vs,i,G,r,h,e=>by cases r
 |n::ns,t::ts,v::vs,0,G,r,h,e=>by
  obtain⟨W,y,z,h1,h2⟩:=r
  cases z
  simp [bx] at e
  subst e
  exact⟨n,t,rfl,rfl,rfl,h1⟩
 |n::ns,t::ts,v::vs,i+1,G,r,h,e=>by
  obtain⟨W,y,z,h1,h2⟩:=r
  cases z
  obtain⟨m,u,k1,k2,k3,N⟩:=B8 (i:=i) h2 .au (by simpa [bx] using e)
  exact⟨m,u,by simpa using k1,by simpa using k2,k3,N⟩
theorem CL {K:.j}{F:Hp}{d:Addr}{o:Obj}{ns:.U}{ts:List T}{vs:List V}(e:F d=some (.frz o (.dK .gb)))(hl:vs.length=ns.length)(r:.f4):TM.Walks K F (ns.map T.str) (RK d o .gb):=by
 refine⟨fun i t F1 H1 h s1 s2=>⟨s2 _ _ (s1 _ _ e),?_⟩,fun i t F1 H1 v H2 h s1 s2 y=>?_,fun F1 H1 s1 s2=>⟨s2 _ _ (s1 _ _ e),?_⟩⟩
 ·rw [jo hl]
  have:=(zar.mp h).1
  simpa using this
 ·obtain⟨rfl,G,h1,rfl⟩:=y
  obtain⟨n,u,k1,k2,k3,N⟩:=B8 r hl h1
  rw [zaI,k1] at h
  cases h
  rw [k3]
  exact⟨F1,aZ.refl s2,rfl⟩
 ·rw [jo hl,zah]
def fX:List Str->List T->List T
 |n::ns,t::ts=>.tup [.str n,t]::fX ns ts
 |_,_=>[]
theorem uf:∀{ns:.U} {ts:List T} {i:Nat} {u:T},(fX ns ts)[i]? = some u->∃n t,ns[i]? = some n/\ts[i]? = some t/\u=.tup [.str n,t]
 |[],_,i,u,e=>by simp [fX] at e
 |_::_,[],i,u,e=>by simp [fX] at e
 |n::ns,t::ts,0,u,e=>by simp [fX] at e;exact⟨n,t,rfl,rfl,e.symm⟩
 |n::ns,t::ts,i+1,u,e=>by
  obtain⟨m,v,k1,k2,k3⟩:=uf (i:=i) (by simpa [fX] using e)
  exact⟨m,v,by simpa using k1,by simpa using k2,k3⟩
theorem n5:∀{ns:.U} {ts:List T},ts.length=ns.length->(fX ns ts).length=ns.length
 |[],[],_=>rfl
 |_::_,[],h=>by cases h
 |[],_::_,h=>by cases h
 |n::ns,t::ts,h=>by rw [fX,List.length_cons,List.length_cons,n5 .au]
theorem Bg {K:.j}{F:Hp}{d:Addr}{o:Obj}{ns:.U}{ts:List T}{vs:List V}(e:F d=some (.frz o (.dK .gb)))(hl:vs.length=ns.length)(r:.f4):TM.Walks K F (fX ns ts) (RJ d o .gb):=by
 have Y:ts.length=ns.length:=by rw [<- hl,r.length]
 refine⟨fun i t F1 H1 h s1 s2=>⟨s2 _ _ (s1 _ _ e),?_⟩,fun i t F1 H1 v H2 h s1 s2 y=>?_,fun F1 H1 s1 s2=>⟨s2 _ _ (s1 _ _ e),?_⟩⟩
 ·rw [jo hl,<- n5 Y]
  exact (zar.mp h).1
 ·obtain⟨p,G,rfl,hp,h1,rfl⟩:=y
  obtain⟨n,u,k1,k2,k3,N⟩:=B8 r hl h1
  obtain⟨b,g,m,c,rfl⟩:=uf h
  rw [k1] at m;cases m
  rw [k2] at c;cases c
  have A:=aZ.new .gL s2 hp
  refine⟨_,A,p,_,rfl,mQ.of aF,_,[_],rfl,?_,_,[],rfl,Rep.mono .hs N,rfl⟩
  rw [k3]
  rfl
 ·rw [jo hl,n5 Y]
section
variable {X:Cx}{tg l:Expr}{f:FE}
noncomputable def sY (f:FE):FA:=fun τ=>(f τ).bind fun p=>match p.1 with | .dct ns _=>some (ns.map T.str,p.2) | _=>none
theorem KY (h:SE X l f):SI X tg l (sY f):=fun Y0 Y9=>PI.weak (Kx .cT) fun σ H R G=>by
 obtain⟨F,τ,ts,τ',E,e1,q⟩:=G
 obtain⟨⟨p,τ1⟩,e2,e1⟩:=bind_some e1
 cases p with
 |dct ns us =>
  cases e1
  refine⟨F,τ,_,_,E,e2,fun F1 H1 v V s1 r1=>?_⟩
  obtain⟨a,ob,vs,rfl,h1,h2,M⟩:=r1
  exact⟨a,ob,_,rfl,V.g.fh _ _ h1,q F1 H1 _ V s1 (CL h1 h2 M)⟩
 |_=>cases e1
noncomputable def iY (f:FE):FA:=fun τ=>(f τ).bind fun p=>match p.1 with | .dct ns ts=>some (fX ns ts,p.2) | _=>none
theorem A7 {elts:.av}{kx:Nat}{px apos cpos:Pos}(h:SE X l f)(C:attributeBase l "items" X.env (.V l)=eval l X.env:=by rfl)(n:.dh=true:=by rfl):SI X .en (.Call (.Attribute l "items" apos) [] [] cpos) (iY f):=fun Y0 Y9=>PI.weak (Iv .cT C n) fun σ H R G=>by
 obtain⟨F,τ,ts,τ',E,e1,q⟩:=G
 obtain⟨⟨p,τ1⟩,e2,e1⟩:=bind_some e1
 cases p with
 |dct ns us =>
  cases e1
  refine⟨F,τ,_,_,E,e2,fun F1 H1 v V s1 r1=>?_⟩
  obtain⟨a,ob,vs,rfl,h1,h2,M⟩:=r1
  exact⟨a,ob,_,rfl,V.g.fh _ _ h1,q F1 H1 _ V s1 (Bg h1 h2 M)⟩
 |_=>cases e1
end
section
variable {X:Cx}
theorem wX:∀(k:Nat) (ys:.U),Vals (ys.map V.str) (strsFrom k ys)
 |_,[]=>.nil
 |k,y::ys=>.cons .ag (wX _ ys)
theorem wH {K:.j}{F:Hp}:∀ys:List Str,aM K F (ys.map T.str) (ys.map V.str)
 |[]=>rfl
 |y::ys=>⟨_,_,rfl,rfl,wH ys⟩
theorem Bv {prog:.ai}{w:World}{A:Around}{E:.n}{s:Shared}{x y:Str}{t u:Tok}{Q:.n}(R:(y.length == 0)=false)(hsz:x.length≤sizeLine)(hl:(Txt.split x y).length≤sizeLine)
  (h:∀us k,Vals ((Txt.split x y).map V.str) us->Q .b5 { s with heap:=s.heap.push { cls:=.type "list", data:=.seq us.toArray },toks:=k }):
  wpAny .O A (call (.builtin "str.split") [.str x t,.str y u]) Q E s:=by
 cases c1:(decide (x.length<y.length)||decide (Builtin.Str.strKind x<Builtin.Str.strKind y)) with
 |true =>
  have e:Txt.split x y=[x]:=by unfold Txt.split;rw [if_pos c1]
  rw [e] at h
  exact .z (meets_str_split_cannot_occur x y t u c1) (h [.str x t] _ (.aD .ag))
 |false =>
  cases c2:(Builtin.Str.occurrences x y 0 x.length (x.length+1)).isEmpty with
  |true =>
   have e:Txt.split x y=[x]:=by unfold Txt.split;rw [if_neg (by rw [c1];decide),if_pos c2]
   rw [e] at h
   exact .z (meets_str_split_not_found x y t u c1 R c2) (h [.str x t] _ (.aD .ag))
  |false =>
   have e:Txt.split x y=Builtin.Str.partsBetween x (Builtin.Str.occurrences x y 0 x.length (x.length+1)) y.length:=by unfold Txt.split;rw [if_neg (by rw [c1];decide),if_neg (by rw [c2];decide)]
   rw [e] at h hl
   exact .z (meets_str_split_sep x y t u c1 R c2 hsz hl) (h _ _ (wX _ _))
noncomputable def gW:T->T->Option T
 | .str a,.str b=>if (b.length == 0)=false/\a.length≤sizeLine/\(Txt.split a b).length≤sizeLine then some (.lst ((Txt.split a b).map T.str)) else none
 |_,_=>none
theorem Aq:Lh X "str.split" gW:=by
 intro pins s σ H x vs v us Q I N f ⟨y,c,F,a,b,t,R,m,B,e,q⟩
 subst c
 obtain⟨L,rfl,r1⟩:=Vals.one f
 unfold gW at e
 split at e
 ·next _ _ d i =>
  split at e
  ·next hl =>
   cases e;cases m;cases B
   obtain⟨t1,rfl⟩:=N
   obtain⟨t2,rfl⟩:=r1
   refine Bv hl.1 hl.2.1 hl.2.2 fun us k Z=>?_
   have hf:.cF:=I.fresh
   have A:=aZ.new (.lst ((Txt.split d i).map V.str)) R hf
   refine⟨.ref s.heap.objs.size,_,I.laid (t':=k) (o:=.lst ((Txt.split d i).map V.str)) (fun b u e=> .cH) .bJ ?_,rfl,q _ _ _ A ⟨_,_,rfl,aF,wH _⟩⟩
   exact⟨by rw [zah];exact hl.2.2,us,0,Z,Heap.get?_push_size _ rfl⟩
  ·cases e
 ·cases e
theorem zQ:∀a b t,gW a b=some t->∃x,a=.str x:=fun a b t h=>by
 unfold gW at h
 split at h
 ·exact⟨_,rfl⟩
 ·cases h
def Jl:T->T->Option T
 | .str a,.str b=>some (.bl (Txt.startswith a b))
 |_,_=>none
theorem Pu:Lh X "str.startswith" Jl:=by
 intro pins s σ H x vs v us Q I N f ⟨y,c,F,a,b,t,R,m,B,e,q⟩
 subst c
 obtain⟨L,rfl,r1⟩:=Vals.one f
 unfold Jl at e
 split at e
 ·cases e;cases m;cases B
  obtain⟨t1,rfl⟩:=N
  obtain⟨t2,rfl⟩:=r1
  exact SC.startswith ⟨.bl _,H,I,rfl,q F H _ .ao rfl⟩
 ·cases e
theorem O4:∀a b t,Jl a b=some t->∃x,a=.str x:=fun a b t h=>by
 unfold Jl at h
 split at h
 ·exact⟨_,rfl⟩
 ·cases h
noncomputable def vJ (f:FE):FE:=fun τ=>(f τ).bind fun p=>match p.1 with
 | .str x=>if x.length≤sizeLine then some (.str x,p.2) else none
 |_=>none
theorem oq {e:Expr}{f:FE}{p:Pos}(h:.fx):SE X (.FormattedValue e (-1) none p) (vJ f):=fun Y0 Y9 pins s σ H Q I G=>by
 obtain⟨F,τ,t,τ',E,e1,q⟩:=G
 obtain⟨⟨u,τ1⟩,e2,e1⟩:=bind_some e1
 cases u with
 |str x =>
  dsimp only at e1
  split at e1
  ·next hl =>
   cases e1
   refine FormattedValue_plain (cF (h Y0 Y9 pins s σ H (fun v H'=>v=.str x/\Q v H') I ⟨F,τ,_,_,E,e2,fun F' H' v Z s' r=>⟨r,q F' H' v Z s' r⟩⟩) fun v s1 ⟨y,H1,O,r1,q1,q2⟩=>?_)
   subst q1
   obtain⟨t1,rfl⟩:=r1
   exact formatField_str (fun t' k=>⟨.str x,H1,O.tok _,.ag,q2⟩) hl
  ·cases e1
 |_=>cases e1
noncomputable def qY:List FE->Str->az->Option (Str×az)
 |[],out,τ=>some (out,τ)
 |f::fs,out,τ=>(f τ).bind fun p=>match p.1 with
  | .str x=>if (out++x).length≤sizeLine then qY fs (out++x) p.2 else none
  |_=>none
noncomputable def SJ (X:Cx)(es:.av)(fs:List FE):Prop:=∀Y0 Y9 pins s σ H (Q:VK) F τ out r τ',Inv X pins σ H s->aB X.K Y0 Y9 F H σ τ->out.length≤sizeLine->qY fs out τ=some (r,τ')->(∀F' H' v,aB X.K Y0 Y9 F' H' σ τ'->aJ F F'->Rep X.K F' (.str r) v->Q v H')->wpAny .o X.A (joinParts out (evalEach es X.env)) .bR X.xe s
theorem yQ:SJ X [] []:=fun Y0 Y9 pins s σ H Q F τ out r τ' I E hl e q=>by
 cases e
 exact joinParts_nilE (joinParts_nil ⟨.str _,H,.hG,.ag,q F H _ E (aJ.refl F) rfl⟩ hl)
theorem eC {e:Expr}{es:.av}{f:FE}{fs:List FE}(h:.fx)(hs:SJ X es fs):SJ X (e::es) (f::fs):=fun Y0 Y9 pins s σ H Q F τ out r τ' I E hl e1 q=>by
 obtain⟨⟨u,τ1⟩,e2,e1⟩:=bind_some e1
 cases u with
 |str x =>
  dsimp only at e1
  split at e1
  ·next hx =>
   refine joinParts_consE (joinParts_cons (cF (h Y0 Y9 pins s σ H (fun v H'=>v=.str x/\∃F',aB X.K Y0 Y9 F' H' σ τ1/\aJ F F') I ⟨F,τ,_,_,E,e2,fun F' H' v Z s' r=>⟨r,F',Z,s'⟩⟩) fun v s1 ⟨y,H1,O,r1,q1,F1,V,a⟩=>?_))
   subst q1
   obtain⟨t1,rfl⟩:=r1
   exact⟨hx,hs Y0 Y9 pins s1 σ H1 Q F1 τ1 _ r τ' O V hx e1 fun F' H' v Z s' r=>q F' H' v Z (a.trans s') r⟩
  ·cases e1
 |_=>cases e1
def zG (fs:List FE):FE:=fun τ=>(qY fs Str.empty τ).map fun p=>(.str p.1,p.2)
theorem rW {e1 e2:Expr}{es:.av}{f1 f2:FE}{fs:List FE}{p:Pos}(h:SJ X (e1::e2::es) (f1::f2::fs)):SE X (.JoinedStr (e1::e2::es) p) (zG (f1::f2::fs)):=fun Y0 Y9 pins s σ H Q I G=>by
 obtain⟨F,τ,t,τ',E,e,q⟩:=G
 unfold zG at e
 cases k:qY (f1::f2::fs) Str.empty τ with
 |none=>rw [k] at e;cases e
 |some r =>
  rw [k] at e
  cases e
  exact JoinedStr_many (h Y0 Y9 pins s σ H Q F τ Str.empty r.1 r.2 I E .e k q)
end
theorem Cw {prog:.ai}{w:World}{A:Around}{E:.n}{s:Shared}{l:Addr}{items:.cP}{Q:List Value->Shared->Prop}(P:A.handled=none)(hl:s.heap.IsList l items)(h1:1≤items.size)(hz:items.size≤sizeLine)
  (h:∀(h':Heap) (tk:Nat),(∀b o,s.heap.get? b=some o->h'.get? b=some o)->Q (items.toList.take 1++[.ref h'.objs.size]) { s with heap:=h'.push { cls:=.type "list", data:=.seq (items.toList.drop 1).toArray },toks:=tk }):
  wpAny .O A (unpackItems (.d l) 2 (.aX 1)) Q E s:=by
 have B:l≠s.heap.objs.size:=by obtain⟨o,ho,_⟩:=hl;exact zas (.aU ho)
 have m:l<s.heap.objs.size:=by obtain⟨o,ho,_⟩:=hl;exact Heap.lt_size ho
 unfold unpackItems notIterableAtAll
 refine .f (.L (wpAny_specialOf hl.typeIs F.slot_list_iter.lookup .b7))
 simp only [Bool.false_eq_true,if_false]
 refine .f (wpAny_holding (wpAny_pyIter_list hl (.L (wpAny_holding (W.kun_draw B 1 0 _ _ .dz (hl.push _) .d fun k a c=>?_)))))
 have d:=(hl.push { cls:=.type "list_iterator", data:=.fields #[.ref l,.int 0 0] }).extBut c.extBut B
 have i:=a
 obtain⟨p,i,_⟩:=i
 have g:=d
 obtain⟨ol,g,_⟩:=g
 rw [List.drop_zero]
 have r:(items.toList.take 1).length=1:=by rw [zba,zbz];omega
 rw [if_neg .d]
 refine .f (wpAny_holding (W.kun_collect (.inr (.inr .bc)) (Walks.list (A:=A.in1) P s.heap.objs.size l B items) (fun j u st=>Heap.IsListIter.typeIs (And.left st)) h1 ⟨a,d⟩ (.aU i) (.aU g) (fun f tk hk=>?_) hz))
 have n:(items.toList.drop 1).length=items.size-1:=by rw [zbg,zbz]
 rw [if_neg .d,show 2-1-1=0 from rfl,Nat.sub_zero,zbQ,zbh]
 refine .f (wpAny_newList ?_)
 refine wpAny_pure ?_
 rw [zaw]
 have kp:∀b o,s.heap.get? b=some o->f.get? b=some o:=fun b o e=>by
  have hb:b≠s.heap.objs.size:=zas .aJ
  exact hk b o hb (c.extBut b o hb (.X e))
 exact h f _ kp
section
variable {X:Cx}{e1 e2:Expr}{ps pos:Pos}
def xE (d:.bH):FG:=fun t τ=>match t with
 | .lst (a::ts)=>d [a,.lst ts] τ
 |_=>none
theorem KS {d:.bH}{k:Nat}(U:.bp)(h:LW X [e1,e2] d)(hm:(assignEach .jr X.env).map (·.2)=(assignEach [e1,e2] X.env).map (·.2):=by rfl)
  (hn:(assignEach .jr X.env).length=2:=by rfl) (g:(assignEach .jr X.env).findIdx? (·.1)=some 1:=by rfl):SG X (.Tuple .jr k pos) (xE d):=fun Y0 Y9 pins s σ H v u Q I r h'=>by
 obtain⟨F,τ,t,τ',E,rt,e1,q⟩:=h'
 unfold xE at e1
 split at e1
 ·next a ts =>
  obtain⟨p,xs,rfl,h1,v0,V,rfl,h2,M⟩:=rt
  cases r
  obtain⟨G,f,Y,hz⟩:=I.list (gE.of (E.g.fh _ _ h1))
  cases f with
  |@cons _ l _ J i rs =>
   rw [assign_Tuple]
   refine .iK
   unfold unpack
   rw [g,hn,hm]
   refine wpAny_bind (wpAny_holding (Cw .dk Y.isList .f (by rw [List.size_toArray];simpa [rs.length] using hz) fun h' tk k1=>?_))
   have j:V.length≤sizeLine:=by have:=rs.length;simp at hz;omega
   have c:=I.kept (t':=s.toks) k1
   have hf:H h'.objs.size=none:=c.hok.fresh .bJ
   have A:=aZ.new (.lst V) E.g.fh hf
   have O:=c.laid (t':=tk) (o:=.lst V) (fun b o e=> .cH) .bJ ⟨j,J,0,rs,.ac⟩
   exact h Y0 Y9 pins _ σ _ [v0,.ref h'.objs.size] _ Q O (.cons i (.aD rfl)) ⟨_,τ,[a,.lst ts],τ',E.grow A,⟨_,_,rfl,Rep.mono A.sF h2,_,_,rfl,⟨_,V,rfl,aF,aM.mono A.sF M⟩,rfl⟩,e1,fun F' H' σ' Z s'=>q F' H' σ' Z (A.sF.trans s')⟩
 ·cases e1
end
abbrev DS:=List Str×List T
def putN:List Str->Str->List Str
 |[],k=>[k]
 |n::ns,k=>if n=k then n::ns else n::putN ns k
noncomputable def lB {α:Type}:List Str->List α->Str->α->List α
 |n::ns,v::vs,k,w=>if n=k then w::vs else v::lB ns vs k w
 |_,_,_,w=>[w]
def DS.put (d:DS)(k:Str)(t:T):DS:=(putN d.1 k,lB d.1 d.2 k t)
theorem Gk {k:Str}:∀{ns:.U} {vs:List V},vs.length=ns.length->((bx ns vs).any fun G=>decide (G.1=Sum.inr k))=fQ ns k
 |[],[],_=>rfl
 |[],_::_,h=>by cases h
 |n::ns,[],h=>by cases h
 |n::ns,v::vs,h=>by
  rw [bx,List.any_cons,Gk .au,fQ]
  by_cases e:n=k
  ·subst e;simp
  ·rw [if_neg e]
   have:.iI:=fun z=>e .gx
   simp [this]
theorem wz {k:Str}{w:V}:∀{ns:.U} {vs:List V},vs.length=ns.length->fQ ns k=false->(bx ns vs).map (fun G=>if G.1=Sum.inr k then (G.1,w) else G)=bx ns vs
 |[],[],_,_=>rfl
 |[],_::_,h,_=>by cases h
 |n::ns,[],h,_=>by cases h
 |n::ns,v::vs,h,e=>by
  rw [fQ] at e
  split at e
  ·cases e
  ·next hn =>
   have:.iI:=fun z=>hn .gx
   rw [bx,List.map_cons,wz .au e]
   simp [this]
theorem uh {α:Type}{k:Str}{w:α}:∀{ns:.U} {vs:List α},vs.length=ns.length->(lB ns vs k w).length=(putN ns k).length
 |[],[],_=>rfl
 |[],_::_,h=>by cases h
 |n::ns,[],h=>by cases h
 |n::ns,v::vs,h=>by
  rw [lB,putN]
  split
  ·simpa using h
  ·rw [List.length_cons,List.length_cons,uh .au]
theorem Gq {k:Str}{w:V}:∀{ns:.U} {vs:List V},vs.length=ns.length->fQ ns k=false->bx ns vs++[(Sum.inr k,w)]=bx (putN ns k) (lB ns vs k w)
 |[],[],_,_=>rfl
 |[],_::_,h,_=>by cases h
 |n::ns,[],h,_=>by cases h
 |n::ns,v::vs,h,e=>by
  rw [fQ] at e
  split at e
  ·cases e
  ·next hn=>rw [bx,List.cons_append,Gq .au e,putN,lB,if_neg hn,if_neg hn,bx]
theorem xG {k:Str}:∀{ns:.U},fQ ns k=true->k∈ns
 |[],e=>by cases e
 |n::ns,e=>by
  rw [fQ] at e
  split at e
  ·next h=>subst h;exact zae
  ·exact zad _ (xG e)
theorem HC {k:Str}{w:V}:∀{ns:.U} {vs:List V},vs.length=ns.length->ns.Nodup->fQ ns k=true->(bx ns vs).map (fun G=>if G.1=Sum.inr k then (G.1,w) else G)=bx (putN ns k) (lB ns vs k w)
 |[],_,_,_,e=>by cases e
 |n::ns,[],h,_,_=>by cases h
 |n::ns,v::vs,h,d,e=>by
  rw [fQ] at e
  have hl:vs.length=ns.length:=by simpa using h
  rw [zaB] at d
  by_cases hn:n=k
  ·subst hn
   have g:fQ ns n=false:=by
    cases z:fQ ns n with
    |false=>rfl
    |true=>exact absurd (xG z) d.1
   rw [putN,lB,.e8,.e8,bx,zaf,wz hl g,bx]
   simp
  ·rw [if_neg hn] at e
   have:.iI:=fun z=>hn .gx
   rw [putN,lB,if_neg hn,if_neg hn,bx,zaf,HC hl d.2 e,bx]
   simp [this]
theorem n9 {k:Str}:∀{ns:.U},ns.Nodup->(putN ns k).Nodup
 |[],_=>by simp [putN]
 |n::ns,d=>by
  rw [putN]
  split
  ·exact d
  ·next h =>
   rw [zaB] at d ⊢
   refine⟨fun m=>?_,n9 d.2⟩
   have key:∀{ns:.U},n∈putN ns k->n∈ns\/n=k:=fun {ns} m=>by
    induction ns with
    |nil=>exact .inr (by simpa [putN] using m)
    |cons a ns A =>
     rw [putN] at m
     split at m
     ·exact .inl m
     ·rcases zao.mp m with m | m
      ·exact .inl (by rw [m];exact zae)
      ·exact (A m).imp (zad _) id
   rcases key m with m | m
   ·exact d.1 m
   ·exact h m
theorem DX {k:Str}{w:V}{ns:.U}{vs:List V}(h:vs.length=ns.length)(d:ns.Nodup):putK .gb (Sum.inr k) w=bx (putN ns k) (lB ns vs k w):=by
 unfold putK
 rw [Gk h]
 cases e:fQ ns k with
 |true=>rw [if_pos rfl];exact HC h d e
 |false=>rw [if_neg .e];exact Gq h e
theorem ui {K:.j}{F:Hp}{k:Str}{t:T}{w:V}(r:Rep K F t w):∀{ns:.U} {ts:List T} {vs:List V},vs.length=ns.length->aM K F ts vs->aM K F (lB ns ts k t) (lB ns vs k w)
 |[],[],[],_,_=>⟨w,[],rfl,r,rfl⟩
 |[],_,_::_,h,_=>by cases h
 |[],_::_,[],_,z=>by obtain⟨_,_,z,_⟩:=z;cases z
 |n::ns,_,[],h,_=>by cases h
 |n::ns,[],_::_,_,z=>by cases z
 |n::ns,t'::ts,v::vs,h,z=>by
  obtain⟨W,Y,e,h1,h2⟩:=z
  cases e
  rw [lB,lB]
  split
  ·exact⟨_,_,rfl,r,h2⟩
  ·exact⟨_,_,rfl,h1,ui r .au h2⟩
structure qB (K:.j)(Y0 Y9 F H:Hp)(σ:L2.St)(τ:az)(x:Nat)(p:Addr)(d:DS):Prop where
 E:aB K Y0 Y9 F H σ τ
 hx:τ[x]? = some .eJ
 hp:∃vs,H p=some .dB/\vs.length=d.1.length/\aM K F d.2 vs
 nd:d.1.Nodup
 fp:F p=none
 h0:Y9 p=none
section
variable {K:.j}{Y0 Y9 F H F' H':Hp}{σ σ':L2.St}{τ τ':az}{x:Nat}{p:Addr}{d:DS}
def kU (Y9 H:Hp)(p:Addr):Hp:=fun b=>if b=p then H p else Y9 b
theorem tF:kU Y9 H p p=H p:=.e8
theorem me {b:Addr}(h:b≠p):kU Y9 H p b=Y9 b:=if_neg h
theorem qB.lend (D:.dy):aB K Y0 (kU Y9 H p) F H σ τ:=by
 obtain⟨b,hp,_⟩:=D.hp
 refine⟨⟨D.E.g.sF,fun a o e=>?_,D.E.g.fh,fun a o e=>?_⟩,D.E.len,fun i s e=>?_,D.E.dj⟩
 ·by_cases m:a=p
  ·subst m;rw [tF] at e;exact e
  ·rw [me m] at e;exact D.E.g.sH _ _ e
 ·have m:a≠p:=fun m=>by subst m;rw [D.fp] at e;cases e
  rcases D.E.g.nw a o e with z | z
  ·exact .inl z
  ·exact .a1 (by rw [me m];exact z)
 ·obtain⟨v,h1,h2⟩:=D.E.sl i s e
  refine⟨v,h1,?_⟩
  cases s with
  |sh t=>exact h2
  |own ts =>
   obtain⟨q,vs,rfl,k1,k2,k3,N⟩:=h2
   exact⟨q,vs,rfl,k1,k2,by rw [me fun z=>by subst z;rw [hp] at k1;cases k1];exact k3,N⟩
theorem qB.back (D:.dy)(Z:aB K Y0 (kU Y9 H p) F' H' σ' τ')(s:aJ F F')(hx:τ'[x]? = some .eJ):qB K Y0 Y9 F' H' σ' τ' x p d:=by
 obtain⟨b,hp,hl,hr⟩:=D.hp
 have out:∀{a:Addr},kU Y9 H p a=none->a≠p/\Y9 a=none:=fun {a} e=>by
  have m:a≠p:=fun m=>by subst m;rw [tF,hp] at e;cases e
  exact⟨m,by rw [me m] at e;exact e⟩
 refine⟨⟨⟨Z.g.sF,fun a o e=>?_,Z.g.fh,fun a o e=>?_⟩,Z.len,fun i s e=>?_,Z.dj⟩,hx,⟨b,Z.g.sH _ _ (by rw [tF];exact hp),hl,aM.mono s hr⟩,D.nd,?_,D.h0⟩
 ·have m:a≠p:=fun m=>by subst m;rw [D.h0] at e;cases e
  exact Z.g.sH _ _ (by rw [me m];exact e)
 ·rcases Z.g.nw a o e with z | z
  ·exact .inl z
  ·exact .inr (out z).2
 ·obtain⟨v,h1,h2⟩:=Z.sl i s e
  refine⟨v,h1,?_⟩
  cases s with
  |sh t=>exact h2
  |own ts =>
   obtain⟨q,vs,rfl,k1,k2,k3,N⟩:=h2
   exact⟨q,vs,rfl,k1,k2,(out k3).2,N⟩
 ·cases n:F' p with
  |none=>rfl
  |some o =>
   rcases Z.g.nw p o n with z | z
   ·have:=D.E.g.sF _ _ z
    rw [D.fp] at this;cases this
   ·exact absurd rfl (out z).1
theorem qB.grow (D:.dy)(g:aZ F H F' H'):qB K Y0 Y9 F' H' σ τ x p d:=by
 obtain⟨b,hp,hl,hr⟩:=D.hp
 refine⟨D.E.grow g,D.hx,⟨b,g.sH _ _ hp,hl,aM.mono g.sF hr⟩,D.nd,?_,D.h0⟩
 cases n:F' p with
 |none=>rfl
 |some o =>
  rcases g.nw p o n with z | z
  ·rw [D.fp] at z;cases z
  ·rw [hp] at z;cases z
theorem qB.get (D:.dy):σ[x]? = Option.some (Option.some (.d p)):=by
 obtain⟨v,h1,h2⟩:=D.E.sl x _ D.hx
 have:v=.ref p:=h2
 rw [h1,this]
theorem qB.put (D:.dy){k:Str}{t:T}{w:V}(r:Rep K F t w):∃kvs,H p=some .aF/\kvs.length=d.1.length/\qB K Y0 Y9 F (.Y p (.dK (putK kvs (Sum.inr k) w))) σ τ x p (d.put k t):=by
 obtain⟨b,hp,hl,hr⟩:=D.hp
 refine⟨_,hp,jo hl,⟨(.bm ⟨D.E.g.sF,fun a o e=>?_,fun a o e=>?_,D.E.g.nw⟩),D.hx,⟨lB d.1 b k w,?_,uh hl,ui r hl hr⟩,n9 D.nd,D.fp,D.h0⟩⟩
 ·rw [ay (fun z=>by subst z;rw [D.h0] at e;cases e)];exact D.E.g.sH _ _ e
 ·rw [ay (fun z=>by subst z;rw [D.fp] at e;cases e)];exact D.E.g.fh _ _ e
 ·obtain⟨v,h1,h2⟩:=D.E.sl i s e
  refine⟨v,h1,?_⟩
  cases s with
  |sh t=>exact h2
  |own ts =>
   obtain⟨q,vs,rfl,k1,k2,k3,N⟩:=h2
   exact⟨q,vs,rfl,by rw [ay (fun z=>by subst z;rw [hp] at k1;cases k1)];exact k1,k2,k3,N⟩
 ·rw [aF,DX hl D.nd]
  rfl
end
abbrev FZ:=Addr->DS->az->Option (DS×az)
noncomputable def tZ (K:.j)(Y0 Y9:Hp)(x:Nat)(f:FZ):TS:=fun D σ H=>∃F τ p d r,qB K Y0 Y9 F H σ τ x p d/\f p d τ=some r/\∀F' H' σ',qB K Y0 Y9 F' H' σ' r.2 x p r.1->aJ F F'->D.nx σ' H'
def SZ (X:Cx)(x:Nat)(st:Stmt)(f:FZ):Prop:=∀Y0 Y9,PS X st (tZ X.K Y0 Y9 x f)
def Ga (X:Cx)(x:Nat)(a:.a4)(f:FZ):Prop:=∀Y0 Y9,lj X a (tZ X.K Y0 Y9 x f)
section
variable {X:Cx}{e:Expr}{pos:Pos}{x:Nat}
def mP:FZ:=fun _ _ _=>none
theorem qA {a:.a4}:Ga X x a mP:=fun Y0 Y9=>lj.weak Fz fun D σ H ⟨F,τ,p,d,r,q,e1,k⟩=>by cases e1
def iN:FZ:=fun _ d τ=>some (d,τ)
def zc (f g:FZ):FZ:=fun p d τ=>(f p d τ).bind fun r=>g p r.1 r.2
theorem pH:Ga X x [] iN:=fun Y0 Y9=>lj.weak ph fun D σ H G=>by
 obtain⟨F,τ,p,d,r,q,e1,k⟩:=G
 cases e1
 exact k F H σ q .dQ
theorem pI {st:Stmt}{f:FZ}(h:SZ X x st f):Ga X x [st] f:=fun Y0 Y9=>rR .cT
theorem uz {st:Stmt}{rest:.a4}{f g:FZ}(h1:SZ X x st f)(h2:Ga X x rest g):Ga X x (st::rest) (zc f g):=fun Y0 Y9=>lj.weak .gh fun D σ H G=>by
 obtain⟨F,τ,p,d,r,q,e1,k⟩:=G
 obtain⟨r1,e2,e1⟩:=bind_some e1
 exact⟨F,τ,p,d,r1,q,e2,fun F1 H1 w E s1=>⟨F1,r1.2,p,r1.1,r,E,e1,fun F2 H2 l J s2=>k F2 H2 l J .a5⟩⟩
noncomputable def NZ (x:Nat)(c:FT)(f g:FZ):FZ:=fun p d τ=>(c τ).bind fun q=>if fW x p q.2=true then (if q.1=true then f p d q.2 else g p d q.2) else none
theorem LO {c:Expr}{a us:.a4}{tc:FT}{f g:FZ}(U:ST X c tc)(ha:Ga X x a f)(hb:Ga X x us g):SZ X x (.If c a us pos) (NZ x tc f g):=fun Y0 Y9=>PS.weak (AK U.any .bT .c4) fun D σ H G=>by
 obtain⟨F,τ,p,d,r,q,e1,k⟩:=G
 obtain⟨⟨b,τ1⟩,e2,e1⟩:=bind_some e1
 dsimp only at e1
 split at e1
 ·next hp =>
  refine⟨Y0,kU Y9 H p,F,τ,b,τ1,q.lend,e2,fun F' H' Z s'=>?_⟩
  have E:=q.back Z s' (eJ hp)
  split at e1
  ·next h=>dsimp only;rw [if_pos h];exact⟨F',τ1,p,d,r,E,e1,fun F2 H2 l J s2=>k F2 H2 l J .i8⟩
  ·next h=>dsimp only;rw [if_neg h];exact⟨F',τ1,p,d,r,E,e1,fun F2 H2 l J s2=>k F2 H2 l J .i8⟩
 ·cases e1
noncomputable def Et (x:Nat)(fk:FE)(f g:FZ):FZ:=fun p d τ=>(fk τ).bind fun q=>match q.1 with
 | .str k=>if fW x p q.2=true then (if fQ d.1 k=true then f p d q.2 else g p d q.2) else none
 |_=>none
theorem K7 {nx:Str}{q1 b:Pos}{i:Expr}{a us:.a4}{fk:FE}{f g:FZ}(hu:.bi)(c:PE X .fr (uA x))(hk:SE X i fk)(ha:Ga X x a f)(hb:Ga X x us g)
  (hm:behindInMarks .In .fr=false:=by first | exact m _ .e .e | rfl):SZ X x (.If (.Compare i [.In] [.Name nx q1] b) a us pos) (Et x fk f g):=fun Y0 Y9=>PS.weak (AK (Nh (MV .d hk.any c) hm) .bT .c4) fun D σ H G=>by
 obtain⟨F,τ,p,d,r,q,e1,k⟩:=G
 obtain⟨⟨t,τ1⟩,e2,e1⟩:=bind_some e1
 cases t with
 |str y =>
  dsimp only at e1
  split at e1
  ·next hp =>
   refine⟨Y0,kU Y9 H p,F,τ,_,τ1,q.lend,e2,fun F' H' v Z s' j=>?_⟩
   have E:=q.back Z s' (eJ hp)
   obtain⟨vs,h1,h2,M⟩:=E.hp
   cases j
   refine⟨_,E.get,p,_,rfl,w5.k (k:=.inr y) h1,_,rfl,?_⟩
   rw [xF h2]
   split at e1
   ·next h=>rw [if_pos h];exact⟨F',τ1,p,d,r,E,e1,fun F2 H2 l J s2=>k F2 H2 l J .i8⟩
   ·next h=>rw [if_neg h];exact⟨F',τ1,p,d,r,E,e1,fun F2 H2 l J s2=>k F2 H2 l J .i8⟩
  ·cases e1
 |_=>cases e1
noncomputable def kW (x:Nat)(fg:FG)(fb:FZ):List T->FZ
 |[],_,d,τ=>some (d,τ)
 |t::ts,p,d,τ=>(fg t τ).bind fun τ1=>if fW x p τ1=true then (fb p d τ1).bind fun r=>kW x fg fb ts p r.1 r.2 else none
noncomputable def CM (x:Nat)(g:FA)(fg:FG)(fb:FZ):FZ:=fun p d τ=>(g τ).bind fun q=>if fW x p q.2=true then kW x fg fb q.1 p d q.2 else none
theorem Cz {tg iter:Expr}{body:.a4}{g:FA}{fg:FG}{fb:FZ}(hp:.dq)(U:.bp)(hi:.ei)(L:SG X tg fg)(hb:Ga X x body fb)
  (hs:∀x,foldedSetIterable iter X.env x=pure x:=by intro _;rfl):SZ X x .gj (CM x g fg fb):=fun Y0 Y9=>PS.weak (Cm hp U hi.any L.any .c4 hs) fun D σ H G=>by
 obtain⟨F,τ,p,d,r,q,e1,k⟩:=G
 obtain⟨⟨ts,τ1⟩,e2,e1⟩:=bind_some e1
 dsimp only at e1
 split at e1
 ·next hq =>
  refine⟨Y0,kU Y9 H p,F,τ,ts,τ1,q.lend,e2,fun F' H' J Z s' W=>?_⟩
  have E:=q.back Z s' (eJ hq)
  refine⟨fun i m σ H=>m=ts.length-i/\i≤ts.length/\∃F1 τ1 c,qB X.K Y0 Y9 F1 H σ τ1 x p c/\aJ F' F1/\kW x fg fb (ts.drop i) p c τ1=some r,⟨_,rfl,zaU _,F',τ1,d,E,aJ.refl _,e1⟩,?_⟩
  rintro i m w H1 ⟨rfl,hi,F1,τ2,c,D1,s1,e3⟩
  by_cases B:i<ts.length
  ·have hd:.iJ:=zaY B
   have L:.gY:=zav B
   rw [hd] at e3
   obtain⟨S,e4,e3⟩:=bind_some e3
   split at e3
   ·next M =>
    obtain⟨Y,e5,e3⟩:=bind_some e3
    refine .a1 ⟨W.go i _ F1 H1 L s1 D1.E.g.fh,fun σ H=>∃F1 τ1 c,qB X.K Y0 Y9 F1 H σ τ1 x p c/\aJ F' F1/\kW x fg fb (ts.drop (i+1)) p c τ1=some r,fun σ' H' n=>⟨_,.d,rfl,B,n⟩,fun y H2 z=>?_⟩
    obtain⟨F2,A,N⟩:=W.yld i _ F1 H1 y H2 L s1 D1.E.g.fh z
    have D2:=D1.grow A
    refine⟨Y0,kU Y9 H2 p,F2,τ2,ts[i],S,D2.lend,N,e4,fun F3 H3 j T C=>?_⟩
    have a:=D2.back T C (eJ M)
    have Q:aJ F' F3:=s1.trans (A.sF.trans C)
    exact⟨F3,S,p,c,Y,a,e5,fun I R s b P=>⟨I,Y.2,Y.1,b,Q.trans P,e3⟩⟩
   ·cases e3
  ·have he:i=ts.length:=.d
   subst he
   rw [zbh] at e3
   cases e3
   exact .inl ⟨W.stop F1 H1 s1 D1.E.g.fh,k F1 H1 w D1 (s'.trans s1)⟩
 ·cases e1
noncomputable def CN (x:Nat)(fk fe:FE):FZ:=fun p d τ=>(fe τ).bind fun q=>if fW x p q.2=true then (fk q.2).bind fun z=>match z.1 with
 | .str k=>if fW x p z.2=true/\d.1.length<sizeLine then some (d.put k q.1,z.2) else none
 |_=>none else none
theorem IW {nx:Str}{q1 p1:Pos}{i v:Expr}{fk fe:FE}(hu:.bi)(Z:PE X .fr (uA x))(hk:SE X i fk)(he:SE X v fe)
  (hs:swapsWith v (.aX (.Subscript .fr i p1)) pos.line X.env=pure false:=by rfl):SZ X x (.Assign [.Subscript .fr i p1] v pos) (CN x fk fe):=fun Y0 Y9=>PS.weak (KC .d Z hk.any he.any hs) fun D σ H G=>by
 obtain⟨F,τ,p,d,r,q,e1,k⟩:=G
 obtain⟨⟨t,τ1⟩,e2,e1⟩:=bind_some e1
 dsimp only at e1
 split at e1
 ·next hp =>
  obtain⟨⟨z,τ2⟩,e3,e1⟩:=bind_some e1
  cases z with
  |str y =>
   dsimp only at e1
   split at e1
   ·next P =>
    cases e1
    refine⟨Y0,kU Y9 H p,F,τ,t,τ1,q.lend,e2,fun F1 H1 w V s1 r1=>?_⟩
    have E:=q.back V s1 (eJ hp)
    refine⟨_,E.get,Y0,kU Y9 H1 p,F1,τ1,.str y,τ2,E.lend,e3,fun F2 H2 u O s2 r2=>?_⟩
    have J:=E.back O s2 (eJ P.1)
    cases r2
    obtain⟨kvs,h1,h2,M⟩:=J.put (k:=y) (Rep.mono s2 r1)
    exact⟨p,_,rfl,Gf.k (k:=.inr y) h1 (by rw [h2];exact P.2),k F2 _ σ M .a5⟩
   ·cases e1
  |_=>cases e1
 ·cases e1
abbrev Jo:=Addr->DS->az->Option R
noncomputable def Uy (K:.j)(Y0 Y9:Hp)(x:Nat)(g:Jo):TS:=fun D σ H=>∃F τ p d r,qB K Y0 Y9 F H σ τ x p d/\g p d τ=some r/\jf K Y0 Y9 F D r
def QP (X:Cx)(x:Nat)(a:.a4)(g:Jo):Prop:=∀Y0 Y9,lj X a (Uy X.K Y0 Y9 x g)
def nM (f:FZ)(g:Jo):Jo:=fun p d τ=>(f p d τ).bind fun r=>g p r.1 r.2
theorem pG {st:Stmt}{rest:.a4}{f:FZ}{g:Jo}(h1:SZ X x st f)(h2:QP X x rest g):QP X x (st::rest) (nM f g):=fun Y0 Y9=>lj.weak .gh fun D σ H G=>by
 obtain⟨F,τ,p,d,r,q,e1,k⟩:=G
 obtain⟨r1,e2,e1⟩:=bind_some e1
 exact⟨F,τ,p,d,r1,q,e2,fun F1 H1 w E s1=>⟨F1,r1.2,p,r1.1,r,E,e1,k.mono s1⟩⟩
def zEnd (x:Nat)(f:FS):Jo:=fun p d τ=>f (τ.set x (.o (.dct d.1 d.2)))
theorem Em {rest:.a4}{f:FS}(h:vM X rest f):QP X x rest (zEnd x f):=fun Y0 Y9 pins s σ H D I G=>by
 obtain⟨F,τ,p,d,r,q,e1,k⟩:=G
 obtain⟨vs,hp,hl,hr⟩:=q.hp
 obtain⟨o,M⟩:=I.freeze hp
 have sF:aJ F (.c F):=fun b u e=>by rw [ay (fun z=>by subst z;rw [q.fp] at e;cases e)];exact e
 refine h Y0 Y9 pins s σ _ D M ⟨upd F p (.frz o .dB),τ.set x (.o (.dct d.1 d.2)),r,⟨⟨q.E.g.sF.trans sF,fun b u e=>?_,fun b u e=>?_,fun b u e=>?_⟩,by rw [List.length_set];exact q.E.len,fun i t e=>?_,fun i j ts us r ne e2 e3=>?_⟩,e1,k.mono sF⟩
 ·rw [ay (fun z=>by subst z;rw [q.h0] at e;cases e)];exact q.E.g.sH _ _ e
 ·by_cases z:b=p
  ·subst z;rw [aF] at e ⊢;exact e
  ·rw [ay z] at e ⊢;exact q.E.g.fh _ _ e
 ·by_cases z:b=p
  ·subst z;exact .inr q.h0
  ·rw [ay z] at e;exact q.E.g.nw _ _ e
 ·by_cases hi:x=i
  ·subst hi
   have B:x<τ.length:=(zar.mp q.hx).1
   rw [zak B] at e
   cases e
   exact⟨_,q.get,p,o,vs,rfl,aF,hl,aM.mono sF hr⟩
  ·rw [zal hi] at e
   obtain⟨v,h1,h2⟩:=q.E.sl i t e
   refine⟨v,h1,?_⟩
   cases t with
   |sh t=>exact Rep.mono sF h2
   |own ts =>
    obtain⟨a,ws,rfl,k1,k2,k3,N⟩:=h2
    have ne:a≠p:=fun z=>by subst z;rw [hp] at k1;cases k1
    exact⟨a,ws,rfl,by rw [ay ne];exact k1,by rw [ay ne];exact k2,k3,aM.mono sF N⟩
 ·have ow:∀{i:Nat} {ts:List T},(τ.set x (.o (.dct d.1 d.2)))[i]? = some (.n ts)->τ[i]? = some (.n ts):=fun {i ts} e=>by
   by_cases hi:x=i
   ·subst hi
    rw [zak (zar.mp q.hx).1] at e;cases e
   ·rw [zal hi] at e;exact e
  exact q.E.dj i j ts us r ne (ow e2) (ow e3)
open Classical in
noncomputable def sW (x:Nat)(g:Jo):FS:=fun τ=>if h:x<τ.length/\∃r,∀p:Addr,g p ([],[]) (τ.set x .eJ)=some r then some h.2.choose else none
theorem zF {x:Nat}{g:Jo}{τ:az}{r:R}(hx:x<τ.length)(h:∀p:Addr,g p ([],[]) (τ.set x .eJ)=some r):sW x g τ=some r:=by
 have ex:x<τ.length/\∃r,∀p:Addr,g p ([],[]) (τ.set x .eJ)=some r:=⟨hx,r,h⟩
 unfold sW
 rw [dif_pos ex]
 have:=(h 0).symm.trans (ex.2.choose_spec 0)
 exact this.symm
theorem Ba {a:.a4}{nx:Str}{p1 p2:Pos}{g:Jo}(J:.eM)(hi:X.N[x]? = some nx)(hx:Loc X.env.scope nx)(h:QP X x a g)(hs:swapsWith (.Dict [] [] p2) (.aX (.Name nx p1)) pos.line X.env=pure false:=by rfl)
  (hf:X.fn nx=true\/X.env.scope.names.lookup nx=some .local:=by first | exact .inl rfl | exact .inr rfl | assumption):vM X (.Assign [.Name nx p1] (.Dict [] [] p2) pos::a) (sW x g):=fun Y0 Y9=>lj.weak (gN (ug J hi hx Im hs hf) .cT) fun D σ H G=>by
 obtain⟨F,τ,r,E,e1,k⟩:=G
 unfold sW at e1
 split at e1
 ·next P =>
  cases e1
  intro p n
  have sH:aJ H (.Y p (.dK [])):=cX n
  have fp:F p=none:=E.g.fh.free n
  refine⟨F,τ.set x .eJ,p,([],[]),_,⟨(E.hp sH).set (t:=.ptr p) rfl,zak P.1,⟨[],aF,rfl,rfl⟩,zbl,fp,E.g.sH.free n⟩,P.2.choose_spec p,k⟩
 ·cases e1
end
theorem Bz {prog:.ai}{w:World}{A:Around}{R:.e4}{s:Shared}{kx u target iter:Expr}{l:.av}{scope:Scope}{pos:Pos}{it:Value}{D:Addr}{env:Env}(I:Nat->Shared->Prop)
  (turn:∀n s,I n s->wpAny .O A (pyNext it) (fun r g=>match r with
   |none=>R (.ok .next) g
   | some v=>wpAny .O A (letOwnedTupleGo target it v) (fun _ d=>wpAny .O A (assign target env v) (fun _ c=>wpAny .O A (yV l env) (fun ok a =>
     if ok=true then wpAny .O A (eval kx env) (fun x b=>wpAny .O A (eval u env) (fun y i=>wpAny .O A (dictSet D x y) (fun _ B=>∃m,m<n/\I m B) .aI i) .aI b) .aI a
     else ∃m,m<n/\I m a) .aI c) .aI d) .aI g) .aI s)
  (n:Nat) (h:I n s):codeAny .O A (.compLoop (.DictComp kx u .hc scope pos) 0 it (.d D) env) R s:=by
 have no:∀{α:Type} {m:Sem α} {Q:α->Shared->Prop} {E:.n} {s:Shared},wpAny .O A m Q .aI s->wpAny .O A m Q E s:=fun h=>wpAny_mono h (fun _ _ q=>q) fun _ _ z=>z.elim
 refine codeAny_loop rfl I (fun n s hI=>?_) n h
 refine (wpAny_noted ?_:wpAny _ A ((compTurn (.DictComp kx u .hc scope pos) 0 it (.d D) env).onRaise (fun x=>do noteFrame x env;theTreesLotGoes x)) _ _ s)
 rw [compTurn_dict]
 refine .f (wpAny_standAt (.L (.ao (no (turn n s hI)) (fun r g k=>?_))))
 cases r with
 |none=>exact wpAny_pure k
 |some v =>
  refine .f (.ao (no k) (fun _ d f=>.aw (no f) (fun _ c j=>wpAny_bind (wpAny_mono (no j) (fun ok a o=>?_) fun _ _ z=>z))))
  cases ok with
  |false=>exact wpAny_pure ⟨rfl,o⟩
  |true =>
   refine .f (.L (.ao (no o) (fun x b t=>?_)))
   refine .f (wpAny_holding (.ao (no t) (fun y i p=>?_)))
   refine .iK
   exact wpAny_holding (.ao (no p) (fun _ B C=>wpAny_pure ⟨rfl,C⟩))
noncomputable def jj (fg:FG)(ft:FT)(fk fv:FE):List T->az->DS->Option DS
 |[],_,acc=>some acc
 | t::ts,τ,acc=>(fg t τ).bind fun τ1=>(ft τ1).bind fun p=>if p.1=true then (fk p.2).bind fun q=>(match q.1 with
   | .str k=>(fv q.2).bind fun z=>if bF z.2=true/\acc.1.length<sizeLine then jj fg ft fk fv ts z.2 (acc.put k z.1) else none
   | _=>none)
  else if bF p.2=true then jj fg ft fk fv ts p.2 acc else none
theorem OR {P:.ai}{w:World}{H:Hp}{h:Heap}{scope:Scope}(hb:sysModules<h.objs.size):di P w H (hA lP h scope) h.objs.size (.dK []):=by
 obtain⟨z,hd,vs,rel,q,es,ep,hq,r⟩:=zB (P:=P) (w:=w) (H:=H) h hb
 exact⟨z,hd,vs,rel,q,es,ep,pushCells_keeps _ _ _ _ (.X hq),r⟩
section
variable {X:Cx}
theorem EL {pins:.s}{σ:L2.St}{H:Hp}{s:Shared}{a:Addr}{kvs:.bv}{k:Key}{v:V}{u r:Value}{A:Around}{E:.n}{Q:.dR}(I:.q)(e:H a=some .aF)(l:kvs.length<sizeLine)(S:RelV (kV k) u)(f:RelV v r)
  (h:∀s',Inv X pins σ (.Y a (.dK (putK kvs k v))) s'->Q () s'):wpAny .o A (dictSet a u r) Q E s:=by
 obtain⟨z,hd,vs,rel,dd⟩:=Dc I.hok e
 have hz:vs.length≤sizeLine:=by rw [<- rel.length];exact z
 have hl:.hV:=by have:=md kvs k v;omega
 refine wpAny_dictSet_pairs (tu S) dd (fun h' j hs=>h _ ?_) hz
 have he:∃q,h'.get? a=some q:=let ⟨q,_,_,hq,_⟩:=j;⟨q,hq⟩
 exact rL I .d4 hs he (BE hl hd (rel.put k f) j)
structure Ge (X:Cx)(pins:.s)(σ:L2.St)(Y0 Y9 F:Hp)(τ:az)(rs:DS)(D C:Addr)(s:Shared):Prop where
 ex:∃(H F3:Hp) (vs:List V),Inv X pins σ H s/\aB X.K Y0 Y9 F3 H σ τ/\aJ F F3/\F3 D=none/\H D=some (.dK (bx rs.1 vs))/\Y9 D=none/\vs.length=rs.1.length/\aM X.K F3 rs.2 vs/\H C=none
 ns:∃m,s.heap.Ns C m
 cl:C≠X.env.locals
 c0:X.Y8.heap.objs.size≤C
 cc:∀x c,X.env.cells.lookup x=some c->c≠C
 cp:∀p∈X.pn++pins,p.1≠C
theorem sI {kx vx tg iter:Expr}{l:.av}{scope:Scope}{pos:Pos}{N':.U}{no:Nat}{cap:.D}{q:FA}{fg:FG}{ft:FT}{fk fv:FE}(hu:.bi)(hx:X.xe=fun _ _=>False)(U:.bp)(B:.gm)(Q:.b6)
  (hcap:∀(k j:Nat),cap[k]? = some j->∃x,N'[no+k]? = some x/\X.N[j]? = some x/\(x,NameKind.free)∈scope.names) (hi:SI X tg iter q)
  (L:∀C cs Y8 Y9 fp pins,SG .v tg fg) (Y:∀C cs Y8 Y9 fp pins,Ey .v l ft) (hk:∀C cs Y8 Y9 fp pins,SE .v kx fk) (he:∀C cs Y8 Y9 fp pins,SE .v vx fv)
  {Y0 Y9 F H:Hp} {pins:.s} {s:Shared} {σ:L2.St} {τ τ1:az} {ts:List T} {rs:DS} (I:.q) (E:aB X.K Y0 Y9 F H σ τ) (e2:q τ=some (ts,τ1)) (ha:bF (.bc .dO)=true) (e3:jj fg ft fk fv ts (.bc .dO) ([],[])=some rs)
  {post:Value->Addr->Result->Shared->Prop} (hpost:∀D C s',Ge X pins σ Y0 Y9 F .dO rs D C s'->post (.d D) C (.ok .next) s'):
  wpAny .o X.A (.V iter) (fun x g=>wpAny .o X.A (pyIter x) (fun it s₂=>wpAny .o X.A newDict (fun acc s₃ =>
   wpAny .o X.A (newFunctionEnv scope X.env.globals .bf [] X.env.qual none .none (some X.env)) (fun cenv s₄ =>
    codeAny .o X.A (.compStart (.B vx) 0 it acc { cenv with scope:=relabel scope X.env }) (post acc cenv.locals) s₄) X.xe s₃) X.xe s₂) X.xe g) X.xe s:=by
 refine cF (hi Y0 Y9 pins s σ H (fun J H1=>∃F1,aB X.K Y0 Y9 F1 H1 σ τ1/\aJ F F1/\Walks X.K F1 ts J) I ⟨F,τ,ts,τ1,E,e2,fun F1 H1 J V s1 W=>⟨F1,V,s1,W⟩⟩) fun v s1 h1=>cF h1 fun itv s2 h2=>?_
 obtain⟨it,fp,tn,J,H1,rfl,M,Tn,st2,f2,F1,V,sF1,W⟩:=h2
 obtain⟨F2,O,sF2⟩:=V.frzAll cap
 have W2:Walks X.K F2 ts J:=⟨fun i t F3 H3 e a b=>W.go i t F3 H3 e .i7 b,fun i t F3 H3 x H4 e a b y=>W.yld i t F3 H3 x H4 e .i7 b y,fun F3 H3 a b=>W.stop F3 H3 .i7 b⟩
 refine wpAny_newObj_type ?_
 have hz:(s2.heap.push lP).objs.size=s2.heap.objs.size+1:=Heap.size_push ..
 have hz2:((s2.heap.push lP).push lP).objs.size=s2.heap.objs.size+2:=by rw [Heap.size_push,hz]
 simp only [newFunctionEnv,Option.isSome_some,if_true]
 refine .f (wpAny_alloc ?_)
 refine wpAny_bind (wpAny_layCells _ (fun name kind cells=>by cases hkc:kind == NameKind.cell<;>simp [hkc]) _ _ _ _ ?_)
 simp only [List.forIn_nil]
 refine .f (.ah .b7)
 have loop:codeAny .o X.A (.compLoop (.B vx) 0 .hD .bt (ji X scope .b1 .aj))
   (post .bt .b1) { s2 with heap:=hA lP s2.heap scope }:=by
  have Ib:=sA (N':=N') lP (.dK []) (OR M.big) (σ':=cI no cap σ) (tk:=s2.toks) M B f2 (fun b hb=>by obtain⟨o,e,_⟩:=Tn.obj 0 _ st2 b hb;exact⟨o,e⟩) (by simp [cI,Q]) (fun i x v a1 a2=>by
   obtain⟨k,j,rfl,hk,P⟩:=pU a2
   obtain⟨x',b1,b2,b3⟩:=hcap k j hk
   rw [a1] at b1;cases b1
   exact .inl ⟨b3,j,b2,P⟩)
  generalize Z:lN X scope N' .b1 .aj s2 H1 fp pins=X' at Ib
  have hg':SG X' tg fg:=by rw [<- Z];exact L _ _ _ _ _ _
  have ht':Ey X' l ft:=by rw [<- Z];exact Y _ _ _ _ _ _
  have hk':SE X' kx fk:=by rw [<- Z];exact hk _ _ _ _ _ _
  have he':SE X' vx fv:=by rw [<- Z];exact he _ _ _ _ _ _
  have xP:X'.prog=X.prog:=by rw [<- Z];rfl
  have xw:X'.w=X.w:=by rw [<- Z];rfl
  have xK:X'.K=X.K:=by rw [<- Z];rfl
  have xA:X'.A=X.A:=by rw [<- Z];rfl
  have xc:X'.calm=true:=by rw [<- Z];exact U
  have xx:X'.xe=fun _ _=>False:=by rw [<- Z];rfl
  have xe':X'.env=ji X scope .b1 .aj:=by rw [<- Z];rfl
  have xex:X'.ex=fp:=by rw [<- Z];rfl
  have xfs:X'.fs=wm X.stack:=by rw [<- Z];rfl
  have xpn:X'.pn=X.pn++pins:=by rw [<- Z];rfl
  have xs0:X'.Y8=s2:=by rw [<- Z];rfl
  have xH0:X'.Y9=H1:=by rw [<- Z];rfl
  have xl:X'.env.locals=s2.heap.objs.size+1:=by rw [<- Z];rfl
  rw [<- xe',<- xP,<- xw,<- xA]
  have hD1:H1 s2.heap.objs.size=none:=M.fresh
  have fpk:∀{Hc:Hp} {σc:L2.St} {pc:.s} {sc:Shared},Inv X' pc σc Hc sc->(∀b∈fp,Hc b=none)->∀b∈fp,si X' [] Hc b:=fun {Hc σc pc sc} Ic hn b hb=>by
   have q1:=Ic.ok.exf b .ep
   have q2:=Ic.ok.exfs b .ep
   refine⟨hn b hb,q1.1,q2,.inl .ep,q1.2,fun p hp=>?_⟩
   rw [xpn,zaw] at hp
   exact (f2 b hb).2.2.2.2.2 p hp
  refine Bz (fun n s3=>∃i σ3 H3 F3 τ3 us vs,Inv X' [] σ3 H3 s3/\tn i s3.heap/\(∀b∈fp,H3 b=none)/\aB X.K F3 H3 F3 H3 σ3 τ3/\bF τ3=true/\F3 s2.heap.objs.size=none/\H3 s2.heap.objs.size=some (.dK (bx us.1 vs))/\(vs.length=us.1.length/\us.1.Nodup/\aM X.K F3 us.2 vs)/\aJ F2 F3/\aJ H1 H3 /\
   (∀a o,F3 a=some o->F2 a=some o\/H1 a=none)/\i≤ts.length/\n=ts.length-i/\jj fg ft fk fv (ts.drop i) τ3 us=some rs) ?_ ts.length ?_
  ·rintro n s3 ⟨i,σ3,H3,F3,τ3,us,vs,I3,st3,fr3,E3,ha3,fD,hD,⟨lv,nd,f⟩,sF,sH,nw,hi',rfl,ec⟩
   by_cases m:i<ts.length
   ·have hgi:.gY:=zav m
    rw [zaY m] at ec
    obtain⟨τ4,e4,ec⟩:=bind_some ec
    obtain⟨⟨b,τ5⟩,e5,ec⟩:=bind_some ec
    have go:=W2.go i _ F3 H3 hgi sF E3.g.fh
    have itm:=(xP ▸ xw ▸ xK ▸ Tn:Turn X'.prog X'.w X'.K tg J fp it tn).item X' rfl rfl rfl xc i [] s3 σ3 H3 .aI I3 (fpk I3 fr3) st3 go
    refine cF itm fun r s4 ⟨u,hr,K⟩=>?_
    subst hr
    refine cF K fun _ s5 ⟨x,H5,I5,r5,y5,st5,fr5⟩=>?_
    have I5':=I5.pinned (fpk I5 fr5) (Tn.obj _ _ st5)
    obtain⟨F5,A,N⟩:=W2.yld i _ F3 H3 x H5 hgi sF E3.g.fh y5
    have a1:=hg' F3 H3 _ s5 σ3 H5 x u (fun σ6 H6=>∃F6,aB X.K F3 H3 F6 H6 σ6 τ4/\aJ F5 F6) I5' r5 (by rw [xK];exact⟨F5,τ3,ts[i],τ4,E3.grow A,N,e4,fun F6 H6 σ6 E6 s6=>⟨F6,E6,s6⟩⟩)
    rw [xx] at a1
    refine cF a1 fun _ s6 ⟨σ6,H6,I6,F6,E6,sF6⟩=>?_
    have a2:=ht' F3 H3 _ s6 σ6 H6 (fun b' H7=>b'=b/\∃F7,aB X.K F3 H3 F7 H7 σ6 τ5/\aJ F6 F7) I6 (by rw [xK];exact⟨F6,τ4,b,τ5,E6,e5,fun F7 H7 E7 s7=>⟨rfl,F7,E7,s7⟩⟩)
    rw [xx] at a2
    refine cF a2 fun ok s7 ⟨H7,I7,hok,F7,E7,sF7⟩=>?_
    subst hok
    have tail:∀{σc:L2.St} {Hc:Hp} {sc:Shared},Inv X' ([]++qj fp s5.heap) σc Hc sc->tn (i+1) sc.heap/\∀b∈fp,Hc b=none:=fun {σc Hc sc} Ic=>by
     refine⟨Tn.keep _ _ _ st5 fun b hb o e=>(Ic.pin (b,o) .dE).1,fun b hb=>?_⟩
     obtain⟨o,e,d⟩:=Tn.obj _ _ st5 b hb
     exact (Ic.pin (b,o) .dE).2.1
    have keepD:∀{Fc Hc:Hp} {σc:L2.St} {τc:az},aB X.K F3 H3 Fc Hc σc τc->Fc s2.heap.objs.size=none:=fun {Fc Hc σc τc} Ec=>by
     cases eF:Fc s2.heap.objs.size with
     |none=>rfl
     |some o =>
      rcases Ec.g.nw _ o eF with z | z
      ·rw [fD] at z;cases z
      ·rw [hD] at z;cases z
    have newF:∀{Fc Hc:Hp} {σc:L2.St} {τc:az},aB X.K F3 H3 Fc Hc σc τc->∀a o,Fc a=some o->F2 a=some o\/H1 a=none:=fun {Fc Hc σc τc} Ec a o eF=>by
     rcases Ec.g.nw a o eF with z | z
     ·exact nw a o z
     ·exact .a1 (sH.free z)
    cases b':ok with
    |false =>
     subst b'
     dsimp only at ec
     rw [if_neg .e] at ec
     split at ec
     ·next ha =>
      rw [if_neg .e]
      obtain⟨t1,t2⟩:=tail I7
      exact⟨ts.length-(i+1),.d,i+1,σ6,H7,F7,τ5,us,vs,I7.unpinned,t1,t2,E7.rebase ha E7.g.fh,ha,keepD E7,E7.g.sH _ _ hD,⟨lv,nd,aM.mono E7.g.sF f⟩,sF.trans E7.g.sF,sH.trans E7.g.sH,newF E7,m,rfl,ec⟩
     ·cases ec
    |true =>
     subst b'
     dsimp only at ec
     rw [if_pos rfl] at ec
     rw [if_pos rfl]
     obtain⟨⟨k0,τ6⟩,e6,ec⟩:=bind_some ec
     cases k0 with
     |str k0 =>
      dsimp only at ec
      obtain⟨⟨y0,τ7⟩,e7,ec⟩:=bind_some ec
      dsimp only at ec
      split at ec
      ·next ha =>
       have a3:=hk' F3 H3 _ s7 σ6 H7 (fun y H8=>y=.str k0/\∃F8,aB X.K F3 H3 F8 H8 σ6 τ6/\aJ F7 F8) I7 (by rw [xK];exact⟨F7,τ5,.str k0,τ6,E7,e6,fun F8 H8 y E8 s8 r8=>⟨r8,F8,E8,s8⟩⟩)
       rw [xx] at a3
       refine cF a3 fun G s8 ⟨y,H8,I8,S,h,F8,E8,sF8⟩=>?_
       subst h
       have a4:=he' F3 H3 _ s8 σ6 H8 (fun y H9=>∃F9,aB X.K F3 H3 F9 H9 σ6 τ7/\aJ F8 F9/\Rep X.K F9 y0 y) I8 (by rw [xK];exact⟨F8,τ6,y0,τ7,E8,e7,fun F9 H9 y E9 s9 r9=>⟨F9,E9,s9,r9⟩⟩)
       rw [xx] at a4
       refine cF a4 fun vv s9 ⟨y,H9,I9,ry9,F9,E9,sF9,rp⟩=>?_
       have dD:H9 s2.heap.objs.size=some (.dK (bx us.1 vs)):=E9.g.sH _ _ hD
       have hlk:(bx us.1 vs).length<sizeLine:=by rw [jo lv];exact ha.2
       refine EL I9 dD hlk (k:=.inr k0) S ry9 fun s10 I10=>?_
       obtain⟨t1,t2⟩:=tail I10
       have kD:=keepD E9
       have R:aJ F9 (upd H9 s2.heap.objs.size (.dK (putK (bx us.1 vs) (.inr k0) y))):=fun c o z=>by rw [ay (fun w=>by subst w;rw [kD] at z;cases z)];exact E9.g.fh _ _ z
       have sm1:aJ H1 (upd H9 s2.heap.objs.size (.dK (putK (bx us.1 vs) (.inr k0) y))):=fun c o z=>by rw [ay (fun w=>by subst w;rw [hD1] at z;cases z)];exact E9.g.sH _ _ (sH _ _ z)
       exact⟨ts.length-(i+1),.d,i+1,σ6,_,F9,τ7,us.put k0 y0,lB us.1 vs k0 y,I10.unpinned,t1,t2,E9.rebase ha.1 R,ha.1,kD,by rw [aF,DX lv nd];rfl,⟨uh lv,n9 nd,ui rp lv (aM.mono E9.g.sF f)⟩,sF.trans E9.g.sF,sm1,newF E9,m,rfl,ec⟩
      ·cases ec
     |_=>cases ec
   ·have hie:i=ts.length:=.d
    subst hie
    rw [zbh] at ec
    cases ec
    have dn:=(xP ▸ xw ▸ xK ▸ Tn:Turn X'.prog X'.w X'.K tg J fp it tn).done X' rfl rfl rfl xc ts.length [] s3 σ3 H3 .aI I3 (fpk I3 fr3) st3 (W2.stop F3 H3 sF E3.g.fh)
    refine cF dn fun r s4 ⟨hr,I4⟩=>?_
    subst hr
    obtain⟨m4,hm4,_⟩:=I4.loc
    rw [xl] at hm4
    have un:=I4.base
    rw [xfs,xex,xH0,xs0] at un
    have ox:=I4.os
    rw [xs0] at ox
    have hok4:=I4.hok
    rw [xP,xw] at hok4
    have IX:Inv X pins σ H3 s4:=M.call' ox un hok4 I4.bare fun b hb=>⟨(f2 b hb).2.2.2.1,(f2 b hb).2.1,(f2 b hb).2.2.2.2.1,(f2 b hb).2.2.2.2.2⟩
    have hC:H3 .b1=none:=by have:=I4.free;rw [xl] at this;exact this
    have lC:@LT.lt Nat _ X.env.locals s2.heap.objs.size:=M.lt
    have A:aZ F2 H1 F3 H3:=⟨sF,sH,E3.g.fh,nw⟩
    exact hpost _ _ _ ⟨⟨H3,F3,vs,IX,O.grow A,(sF1.trans sF2).trans sF,fD,hD,O.g.sH.free hD1,lv,f,hC⟩,⟨m4,hm4⟩,zaW (zaK lC),zaz M.sz (zbL _),
     fun x c hxc=>by obtain⟨v,z⟩:=M.cell x c hxc;exact zas (zaK z.lt),fun p hp=>zas (zaK (Heap.lt_size (M.pin p hp).1))⟩
  ·refine⟨0,cI no cap σ,upd H1 s2.heap.objs.size (.dK []),F2,cI no cap .dO,([],[]),[],Ib,Tn.keep _ _ _ st2 fun b hb o e=>iZ e,fun b hb=>?_,O.block ha (O.g.fh.trans (cX hD1)),ha,O.g.fh.free hD1,aF,⟨rfl,zbl,rfl⟩,aJ.refl _,cX hD1,fun a o z=>.inl z,zaU _,rfl,e3⟩
   obtain⟨o,e,_⟩:=Tn.obj 0 _ st2 b hb
   rw [ay (zas .aJ)]
   exact (f2 b hb).1
 have fin:∀{C:Addr} {cs:.cD},C=s2.heap.objs.size+1->cs=cellsFrom (s2.heap.objs.size+2) scope.names .bf ->
   codeAny .o X.A (.compStart (.B vx) 0 .hD .bt (ji X scope C cs)) (post .bt C) { s2 with heap:=hA lP s2.heap scope }:=fun {C cs} h1 h2=>by
  subst h1 h2
  exact codeAny_compStart_dict loop (Tn.self _ 0 _ _ _ (Tn.keep _ _ _ st2 fun b hb o e=>iZ e) loop)
 exact fin hz (by rw [<- hz2])
theorem aB.frzD {K:.j}{Y0 Y9 F H:Hp}{σ:L2.St}{τ:az}{p:Addr}{kvs:.bv}{o:Obj}(E:.aw)(hp:H p=some .aF)(fp:F p=none)(h0:Y9 p=none):
  aB K Y0 Y9 (upd F p .ch) (.Y p .ch) σ τ/\aJ F (upd F p .ch):=by
 have sF:aJ F (upd F p .ch):=fun b u e=>by rw [ay (fun z=>by subst z;rw [fp] at e;cases e)];exact e
 refine⟨⟨⟨E.g.sF.trans sF,fun b u e=>?_,fun b u e=>?_,fun b u e=>?_⟩,E.len,fun i t e=>?_,E.dj⟩,sF⟩
 ·rw [ay (fun z=>by subst z;rw [h0] at e;cases e)];exact E.g.sH _ _ e
 ·by_cases z:b=p
  ·subst z;rw [aF] at e ⊢;exact e
  ·rw [ay z] at e ⊢;exact E.g.fh _ _ e
 ·by_cases z:b=p
  ·subst z;exact .inr h0
  ·rw [ay z] at e;exact E.g.nw _ _ e
 ·obtain⟨v,h1,h2⟩:=E.sl i t e
  refine⟨v,h1,?_⟩
  cases t with
  |sh t=>exact Rep.mono sF h2
  |own ts =>
   obtain⟨a,ws,rfl,k1,k2,k3,N⟩:=h2
   have ne:a≠p:=fun z=>by subst z;rw [hp] at k1;cases k1
   exact⟨a,ws,rfl,by rw [ay ne];exact k1,by rw [ay ne];exact k2,k3,aM.mono sF N⟩
noncomputable def jk (no:Nat)(cap:.D)(g:FA)(fg:FG)(ft:FT)(fk fv:FE):FE:=fun τ=>(g τ).bind fun p =>
 if bF .bd=true then (jj fg ft fk fv p.1 .bd ([],[])).bind fun d=>some (.dct d.1 d.2,frzAll cap p.2) else none
theorem IG {kx u tg iter:Expr}{l:.av}{scope:Scope}{pos:Pos}{N':.U}{no:Nat}{cap:.D}{g:FA}{fg:FG}{ft:FT}{fk fv:FE}(hu:.bi)(hx:X.xe=fun _ _=>False)(U:.bp)(B:.gm)(J:.b6)
  (K:∀(k j:Nat),cap[k]? = some j->∃x,N'[no+k]? = some x/\X.N[j]? = some x/\(x,NameKind.free)∈scope.names) (hi:.ei)
  (L:∀C cs Y8 Y9 fp pins,SG .v tg fg) (Y:∀C cs Y8 Y9 fp pins,Ey .v l ft) (hk:∀C cs Y8 Y9 fp pins,SE .v kx fk) (he:∀C cs Y8 Y9 fp pins,SE .v u fv)
  (hs:∀x,foldedSetIterable iter X.env x=pure x:=by intro _;rfl):SE X (.B u) (jk no cap g fg ft fk fv):=by
 intro Y0 Y9 pins s σ H Q I ⟨F,τ,t,τ',E,e1,q⟩
 obtain⟨⟨ts,τ1⟩,e2,e1⟩:=bind_some e1
 dsimp only at e1
 split at e1
 ·next ha =>
  obtain⟨rs,e3,e1⟩:=bind_some e1
  cases e1
  have G:∀y∈scope.names,y.2=.free->∃c,X.env.cells.lookup y.1=some c:=.ca
  rw [arm_eval_DictComp]
  refine wpAny_comprehension_free (use:=none) rfl hs (jT G) B.kind B.names (sI hu hx U B J K hi L Y hk he I E e2 ha e3 fun D C s' Z=>?_)
  obtain⟨H3,F3,vs,d,T,sF,h,A,i,lv,f,P⟩:=Z.ex
  obtain⟨m,hm⟩:=Z.ns
  refine⟨m,hm,fun h' N=>?_⟩
  have O:=d.turned (t':=s'.toks) (it:=C) (h':=h') .et P Z.cl (.inr Z.c0) Z.cc Z.cp
  obtain⟨o,M⟩:=O.freeze A
  obtain⟨p,s4⟩:=T.frzD (o:=o) A h i
  exact⟨.ref D,_,M,rfl,q _ _ (.d D) p (sF.trans s4) ⟨D,o,vs,rfl,aF,lv,aM.mono s4 f⟩⟩
 ·cases e1
end
section
variable {X:Cx}{e:Expr}{pos:Pos}
noncomputable def Qj (ys:.U)(i j:Nat):Bool:=decide ((ys.getD i Str.empty).cps.toList<(ys.getD j Str.empty).cps.toList)
def HD (ys:.U):Str:=ys.getD (argBest (Qj ys) (ys.length-1)) Str.empty
theorem uy {us:.S}{ys:.U}(h:StrsAre us ys):∀{i:Nat} {v:Value},us[i]? = some v->∃t,v=.str (ys.getD i Str.empty) t/\i<ys.length:=by
 induction h with
 |nil=>intro i v e;cases i<;>cases e
 |cons y t h A =>
  intro i v e
  cases i with
  |zero=>cases e;exact⟨_,rfl,Nat.zero_lt_succ _⟩
  |succ i =>
   obtain⟨t',e1,e2⟩:=A (i:=i) .fK
   exact⟨t',by rw [e1];rfl,Nat.succ_lt_succ e2⟩
theorem Bb {us:.S}{ys:.U}(h:StrsAre us ys):us.length=ys.length:=by
 induction h with
 |nil=>rfl
 |cons y t h A=>rw [zap,zap,A]
noncomputable def jC:List T->Option T
 |[.lst ts]=>(strsOf ts).bind fun ys=>if 0<ys.length then some (.str (HD ys)) else none
 |ts=>Jv ts
theorem C4 (U:.bp):gf X (.builtin "min") jC:=by
 intro pins s σ H xs us Q I N ⟨F,ts,t,R,r,e1,q⟩
 unfold jC at e1
 split at e1
 ·next g =>
  obtain⟨ys,e2,e1⟩:=bind_some e1
  split at e1
  ·next hl =>
   cases e1
   obtain⟨v,y,rfl,h1,rfl⟩:=r
   obtain⟨l,vs,rfl,g1,g2⟩:=h1
   obtain⟨u,rfl,S⟩:=vals1 N
   cases S
   obtain⟨G,f,Y,hz⟩:=I.list (gE.of (R _ _ g1))
   have sa:=pD e2 g2 f
   have B:l≠s.heap.objs.size:=by obtain⟨o,ho,_⟩:=Y.isList;exact zas (.aU ho)
   have d:=I.ok.hd U
   refine call_min_walk (wpAny_pyIter_list Y.isList ⟨_,_,_,_,_,_,Qj ys,rfl,Walks.list (A:=X.A.in1) d s.heap.objs.size l B G.toArray,⟨.dz,Y.isList.push _⟩,fun b hb=>?_,by rw [zaE,Bb sa];exact hl,fun i j h n s' k Z hi a hq=>?_,fun v h' tk c hk=>?_⟩)
   ·have hsz:(s.heap.push { cls:=.type "list_iterator", data:=.fields #[.ref l,.int 0 0] }).objs.size=s.heap.objs.size+1:=Heap.size_push ..
    dsimp only
    rw [hsz]
    rcases zao.mp hb with rfl | hb
    ·exact zbf _
    ·rw [zac.mp hb]
     obtain⟨o,ho,_⟩:=Y.isList
     exact zaK (.aU ho)
   ·obtain⟨t1,e3,_⟩:=uy sa (i:=i) (v:=h) .dA
    obtain⟨t2,e4,_⟩:=uy sa (i:=j) (v:=n) (by simpa using a)
    subst e3 e4
    exact (P.lt_str hq:wpAny _ _ (compareOp .Lt _ _) _ _ _)
   ·obtain⟨t1,e3,_⟩:=uy sa (i:=argBest (Qj ys) (G.toArray.size-1)) (v:=v) (by simpa using c)
    subst e3
    rw [zaE,Bb sa]
    have O:.ff:=I.kept (t':=tk) fun b o e=>hk b o (fun m=>by rw [zac.mp m] at e;exact za4 _ .aJ) (.X e)
    exact⟨.str (HD ys),H,O,⟨t1,rfl⟩,q F H _ .ao rfl⟩
  ·cases e1
 ·exact L8 U pins s σ H xs us Q I N ⟨F,ts,t,R,r,e1,q⟩
theorem IH {x y:Str}{t:Tok}{pos:Pos}(L:Gl X x)(hm:X.mg x=some (.str y t))(hd:.M=false:=by decide):SE X .fB (fC (.str y)):=gO (rQ (v:=.str y) L hm .ag hd) fun _=>rfl
structure Bm (K:.j)(A B C:Addr)(b:Bool):Prop where
 one:∃q,dQ K A C q
 kit:PySem.W.kitAny K (.d C) [.ref A,.ref B]=some b
noncomputable def nQ (A B:Addr)(tbl:List .b2):List T->Option T
 |[.obj C _ _,.tup [.ptr f,.ptr u]]=>if f=A/\u=B then (findB C tbl).bind fun b=>some .f0 else none
 |_=>none
theorem Gx {A B:Addr}{tbl:List .b2}(Y:∀a∈tbl,Bm X.K A B a.1 a.2):gf X .d6 (nQ A B tbl):=by
 intro pins s σ H xs us Q I N ⟨F,ts,t,R,r,e1,q⟩
 unfold nQ at e1
 split at e1
 ·next C _ _ f u =>
  split at e1
  ·next d =>
   obtain⟨hA,hB⟩:=d
   subst hA
   subst hB
   obtain⟨b,e3,e1⟩:=bind_some e1
   cases e1
   obtain⟨v,y,rfl,h1,v2,r2,rfl,h2,rfl⟩:=r
   obtain⟨a,dx,vs,rfl,g1,_⟩:=h1
   obtain⟨tp,zs,rfl,g2,g3⟩:=h2
   cases ql (As:=[f,u]) g3
   obtain⟨L,S,rfl,m,c⟩:=Vals.two N
   cases (show S=Value.ref tp from c)
   cases (show L=Value.ref a from m)
   obtain⟨⟨_,ok⟩,kit⟩:=Y _ (jE e3)
   obtain⟨G,Z,⟨o,h1,h2,n,M⟩,_⟩:=I.tuple (bZ R g2)
   obtain⟨i,K,rfl,r1,r2⟩:=Vals.two Z
   cases (show i=Value.ref f from r1)
   cases (show K=Value.ref u from r2)
   obtain⟨oc,h,j,sl⟩:=o
   cases h2
   cases M
   obtain⟨mA,O,_⟩:=mT I.hok (R _ _ g1)
   obtain⟨od,J,_⟩:=O.look
   exact PySem.W.kia_tup (zbN (ok.cl.get _) ok.cl.hd ok.ha ok.hn ok.htk ok.hm) I.kIn J h1 kit .a6 fun tk=>⟨.bl b,H,I.tok tk,rfl,q F H _ .ao rfl⟩
  ·cases e1
 ·cases e1
end
end TM
namespace L2
open PySem PySem.Spec PyProof.Rows
theorem eG.units2 {k:Nat}{A:Around}(r:eG k A):A.units+66<cLine:=by have:=r.un;omega
end L2
namespace TM
open PySem PySem.Spec PyProof.Rows L2
section
variable {X:Cx}{e:Expr}{pos:Pos}
noncomputable def cU:T->T->Option T
 | .str a,.tup ts=>(strsOf ts).bind fun ys=>if (ys.map (·.length)).sum+ys.length*a.length≤16777216 then some (.str (Txt.join a ys)) else none
 |a,b=>zO a b
theorem jH:Lh X "str.join" cU:=by
 intro pins s σ H x vs v us Q I N f ⟨y,c,F,a,b,t,R,m,B,e1,q⟩
 subst c
 unfold cU at e1
 split at e1
 ·obtain⟨L,rfl,r1⟩:=Vals.one f
  obtain⟨ys,e2,e1⟩:=bind_some e1
  split at e1
  ·next hl =>
   cases e1;cases m
   obtain⟨p,xs,rfl,h1,h2⟩:=B
   obtain⟨t1,rfl⟩:=N
   cases r1
   obtain⟨G,d,p2,hz⟩:=I.tuple (bZ R h1)
   exact join_tuple p2 (by simpa using pD e2 h2 d) hl fun t' k=>⟨.str _,H,I.tok _,.ag,q F H _ .ao rfl⟩
  ·cases e1
 ·exact J7 pins s σ H x [y] v us Q I N f ⟨y,rfl,F,a,b,t,R,m,B,e1,q⟩
theorem jF:∀a b t,cU a b=some t->∃x,a=.str x:=fun a b t h=>by
 unfold cU at h
 split at h
 ·exact⟨_,rfl⟩
 ·exact JO a b t h
noncomputable def JC:List T->List T->Option Bool
 |t::ts,u::us=>(rY t).bind fun d=>(rY u).bind fun e=>if SeqAt.shaped d=true/\SeqAt.shaped e=true then (JC ts us).bind fun b=>some (d.eqv e&&b) else none
 |[],[]=>some true
 |_,_=>none
noncomputable def Mn:T->T->Option T
 | .dct ns ts,.dct ms us=>if ns=ms/\ns.Nodup then (JC ts us).map T.bl else none
 |_,_=>none
theorem Al {pins:.s}{σ:L2.St}{H F:Hp}{s:Shared}{A:Around}{kb:List (Key×Value)}(hu:A.in1.units+64<cLine)(I:.q)(R:aJ F H):∀{ns:.U} {ts us:List T} {vs ws:List V} {a f:List (Key×Value)} {b:Bool},(∀p∈f,valueAt kb p.1=some p.2)->vs.length=ns.length->ws.length=ns.length->aM X.K F ts vs->aM X.K F us ws->KV .gb a->KV (bx ns ws) f->JC ts us=some b->W.KeqHits A.in1 s kb a b
 |[],[],[],[],[],a,f,b,_,_,_,_,_,m,_,e=>by
  cases e
  cases m
  exact .nil
 |[],_,_,_::_,_,_,_,_,_,h,_,_,_,_,_,_=>by cases h
 |[],_,_,_,_::_,_,_,_,_,_,h,_,_,_,_,_=>by cases h
 |[],_::_,_,[],_,_,_,_,_,_,_,h,_,_,_,_=>by obtain⟨_,_,z,_⟩:=h;cases z
 |[],_,_::_,_,[],_,_,_,_,_,_,_,h,_,_,_=>by obtain⟨_,_,z,_⟩:=h;cases z
 |n::ns,_,_,[],_,_,_,_,_,h,_,_,_,_,_,_=>by cases h
 |n::ns,_,_,_,[],_,_,_,_,_,h,_,_,_,_,_=>by cases h
 |n::ns,[],_,_::_,_,_,_,_,_,_,_,h,_,_,_,_=>by cases h
 |n::ns,_,[],_,_::_,_,_,_,_,_,_,_,h,_,_,_=>by cases h
 |n::ns,t::ts,u::us,v::vs,w::ws,a,f,b,Z,l1,l2,r1,r2,k1,k2,e=>by
  obtain⟨c,y,U,q1,q2⟩:=r1
  cases U
  obtain⟨B,y,D,q3,q4⟩:=r2
  cases D
  obtain⟨d,e1,e⟩:=bind_some e
  obtain⟨d',e2,e⟩:=bind_some e
  split at e
  ·next hs =>
   obtain⟨i,e3,e⟩:=bind_some e
   cases e
   cases k1 with
   |cons h1 t1 =>
    cases k2 with
    |cons h2 t2 =>
     rename_i p1 _ p2 _
     obtain⟨o,J⟩:=p1
     obtain⟨q,C⟩:=p2
     obtain⟨g,j⟩:=h1
     obtain⟨k,l⟩:=h2
     dsimp only at g k j l
     subst g k
     obtain⟨as,g1⟩:=dC I R e1 q1 j
     obtain⟨bs,g2⟩:=dC I R e2 q3 l
     exact .hit (Z _ List.mem_cons_self) (W.keq_at g1 g2 hs.1 hs.2 hu) (Al hu I R (fun p hp=>Z p (.S hp)) (by simpa using l1) (by simpa using l2) q2 q4 t1 t2 e3)
  ·cases e
theorem wY {κ:Type}[DecidableEq κ]:∀{kb:.dS},(kb.map (·.1)).Nodup->∀p∈kb,valueAt kb p.1=some p.2
 |[],_,p,h=>by cases h
 |a::kb,d,p,h=>by
  rw [zaf,zaB] at d
  unfold valueAt
  rw [List.find?_cons]
  rcases zao.mp h with rfl | h
  ·simp
  ·have:¬ a.1=p.1:=fun z=>d.1 (by rw [z];exact List.mem_map_of_mem h)
   simp only [this,decide_false]
   exact wY d.2 p h
theorem DG:∀{ns:.U} {vs:List V},vs.length=ns.length->(bx ns vs).map (·.1)=ns.map Sum.inr
 |[],[],_=>rfl
 |[],_::_,h=>by cases h
 |n::ns,[],h=>by cases h
 |n::ns,v::vs,h=>by rw [bx,List.map_cons,List.map_cons,DG .au]
theorem MS (hu:X.A.units+66<cLine):lh X (.ag .Eq) Mn:=fun pins s σ H x y v u Q I N S G=>by
 obtain⟨F,a,b,t,R,m,B,e,q⟩:=G
 unfold Mn at e
 split at e
 ·next ns ts d us =>
  split at e
  ·next hn =>
   obtain⟨j,nd⟩:=hn
   subst j
   cases e3:JC ts us with
   |none=>rw [e3] at e;cases e
   |some r =>
    rw [e3] at e
    cases e
    obtain⟨a1,f,vs,rfl,g1,l1,q1⟩:=m
    obtain⟨a2,l,ws,rfl,g2,l2,q2⟩:=B
    cases N
    cases S
    obtain⟨_,U,n,ka,k,c⟩:=I.hok a1 _ (R _ _ g1)
    obtain⟨_,D,hd2,kb,g,i⟩:=I.hok a2 _ (R _ _ g2)
    have Z:=wY (kb:=kb) (by rw [<- g.keys,DG l2];exact List.Pairwise.map _ (fun a b h z=>h .gx) nd)
    refine W.keq_eq n hd2 c i .d (fun _=>Al (by show X.A.units+1+64<cLine;omega) I R Z l1 l2 q1 q2 k g e3) ⟨.bl _,H,I,rfl,?_⟩
    rw [<- k.length,<- g.length,jo l1,jo l2]
    simp only [beq_self_eq_true,Bool.true_and]
    exact .er
  ·cases e
 ·cases e
end
section
variable {X:Cx}
theorem A9 (i:Nat){y:Str}{n h:Pos}{kx u tg iter:Expr}{l:.av}{scope:Scope}{pos:Pos}{N':.U}{no:Nat}{cap:.D}{g:FA}{fg:FG}{ft:FT}{fk fv:FE}(W:.eM)(hiy:X.N[i]? = some y)(R:.bN)(hu:.bi)
  (hx:X.xe=fun _ _=>False) (U:.bp) (B:.gm) (J:.b6)
  (K:∀(k j:Nat),cap[k]? = some j->∃x,N'[no+k]? = some x/\X.N[j]? = some x/\(x,NameKind.free)∈scope.names) (hi:.ei)
  (L:∀C cs Y8 Y9 fp pins,SG .v tg fg) (Y:∀C cs Y8 Y9 fp pins,Ey .v l ft) (hk:∀C cs Y8 Y9 fp pins,SE .v kx fk) (he:∀C cs Y8 Y9 fp pins,SE .v u fv)
  (S:swapsWith (.B u) (.aX .f1) h.line X.env=pure true:=by rfl) (hs:∀x,foldedSetIterable iter X.env x=pure x:=by intro _;rfl):
  SS X (.bw (.B u)) (cj i (jk no cap g fg ft fk fv)):=by
 intro Y0 Y9 pins s σ H Dn I ⟨F,τ,r,E,e1,q⟩
 obtain⟨⟨t,τ'⟩,d,e1⟩:=bind_some e1
 cases e1
 obtain⟨⟨ts,τ1⟩,e2,e1⟩:=bind_some d
 dsimp only at e1
 split at e1
 ·next ha =>
  obtain⟨rs,e3,e1⟩:=bind_some e1
  cases e1
  have G:∀y∈scope.names,y.2=.free->∃c,X.env.cells.lookup y.1=some c:=.ca
  rw [exec_Assign_Name_used _ _ _ _ S]
  refine .f (wpAny_standAt (wpAny_bind (?_:wpAny _ X.A (do let _ <- comprehension (.B u) scope X.env _ newDict false (.V iter) (.aX (assign .f1 X.env))) _ _ s)))
  refine .f (cF (wpAny_comprehension_free (use:=some (assign .f1 X.env)) (Q:=fun _ s'=>SP X pins Dn .next s') rfl hs (jT G) B.kind B.names (sI hu hx U B J K hi L Y hk he I E e2 ha e3 fun D C s' Z=>?_)) fun _ s' hq=>wpAny_pure (.ah hq))
  obtain⟨H3,F3,vs,IX,T,sF,fD,A,h0D,lv,f,P⟩:=Z.ex
  obtain⟨m,hm⟩:=Z.ns
  refine (wpAny_assign_Name (qz IX W hiy (.inl R) (v:=.ref D) rfl (fun V I'' w=>?_) (.inr R)):wpAny _ X.A (assign .f1 X.env (.d D)) _ _ _)
  obtain⟨a,N,hab⟩:=w
  have aC:C≠a:=fun z=>by
   subst z
   rcases hab with z | z
   ·exact Z.cl z
   ·exact Z.cc _ _ z rfl
  refine⟨m,hm.sameBut N aC,fun h' sb'=>?_⟩
  have O:=I''.turned (t':=V.toks) (it:=C) (h':=h') (fun b o hb e=>(sb'.2 b hb).trans e) P Z.cl (.inr Z.c0) Z.cc Z.cp
  obtain⟨o,M⟩:=O.freeze A
  obtain⟨p,s4⟩:=T.frzD (o:=o) A fD h0D
  exact⟨_,_,M,q _ _ _ (p.set (t:=.dct rs.1 rs.2) ⟨D,o,vs,rfl,aF,lv,aM.mono s4 f⟩) (sF.trans s4)⟩
 ·cases e1
end
section
variable {X:Cx}{e:Expr}
noncomputable def wN:List O->Option (List Str)
 |[]=>some []
 | .val (.str k)::os=>(wN os).bind fun l=>some (k::l)
 |_=>none
theorem wO:∀l:List Str,wN (l.map fun k=>O.val (.str k))=some l
 |[]=>rfl
 |k::l=>by
  show (wN (l.map fun k=>O.val (.str k))).bind _=_
  rw [wO l]
  rfl
theorem wQ {K:.j}{F F' H:Hp}:∀{os:List O} {l:.U} {vs:List V} {B:.V},wN os=some l->cq K F H os vs B->aM K F' (l.map T.str) vs
 |[],l,vs,B,e,h=>by cases e;exact h.1
 |o::os,l,vs,B,e,h=>by
  unfold wN at e
  split at e
  ·next j=>cases j
  ·next k a j =>
   cases j
   obtain⟨f,e1,e2⟩:=bind_some e
   cases e2
   obtain⟨v,r,b,C,rfl,rfl,h1,h2⟩:=h
   exact⟨v,r,rfl,h1.2,wQ e1 h2⟩
  ·cases e
noncomputable def pY (i:Nat)(f:pQ):FE:=fun τ=>match τ[i]? with
 |some (.n us)=>(f ((hide τ).set i (.o .e2))).bind fun q=>match q.1 with
  | .lst os=>(wN os).bind fun l=>some (.lst (l.map T.str),τ)
  |_=>none
 |_=>none
theorem A4 (i:Nat){f:pQ}(h:Bp X e f):SE X e (pY i f):=fun Y0 Y9=>PE.weak (fun pins s σ H Q I (P:∃Y0 Y9,_)=>by
  obtain⟨a,b,q⟩:=P
  exact h a b pins s σ H Q I q) fun σ H Q G=>by
 obtain⟨F,τ,t,τ',E,e1,q⟩:=G
 unfold pY at e1
 split at e1
 ·next us e3 =>
  obtain⟨⟨o,τ1⟩,e2,e1⟩:=bind_some e1
  dsimp only at e1
  split at e1
  ·next os =>
   obtain⟨l,e4,e1⟩:=bind_some e1
   cases e1
   obtain⟨v,h1,a,vs,rfl,h2,M,D,R⟩:=E.sl i _ e3
   refine⟨L2.upd F a .bn,H,L2.upd F a .bn,_,_,τ1,E.look h1 h2 M R,e2,fun F' H' W A Z s' ro nd h0 ap=>?_⟩
   have gl:=aZ.lent M Z.g
   obtain⟨p,ws,B,rfl,rfl,k1,k2,k3⟩:=ro
   have hp:H p=none:=h0 p zae
   have fp:gd F' [a] p=none:=by
    by_cases m:p∈[a]
    ·exact gH m
    ·rw [bG m];exact k2
   have hA:∀b∈[p],gd F' [a] b=none:=fun b hb=>by rw [zac.mp hb];exact fp
   have V:=(E.grow gl).frzO (A:=[p]) hA (fun b hb=>by rw [zac.mp hb];exact E.g.sH.free hp) (fun k J d e5 u m=>by
    rw [zac] at m
    subst m
    obtain⟨v2,g1,q2,c,rfl,g2,g3⟩:=E.sl k _ e5
    rw [u] at g1
    cases g1
    rw [hp] at g2
    cases g2)
   exact q _ H' _ V (gl.sF.trans (eg hA)) ⟨p,ws,rfl,by rw [fA zae];exact k1,wQ e4 k3⟩
  ·cases e1
 ·cases e1
end
section
variable {X:Cx}{pins:.s}{σ:L2.St}{H:Hp}{s:Shared}{p:Addr}{o:Obj}{kvs:.bv}
theorem Inv.nofrz (I:.q)(e:H p=some .aF):∀o u,X.Y9 p≠some (.frz o u):=fun o u z=>by
 have:=I.base.frzs p o u z
 rw [e] at this;cases this
theorem Inv.thaw (I:.q)(e:H p=some .ch)(d:∀o u,X.Y9 p≠some (.frz o u)):Inv X pins σ (.Y p .aF) s:=by
 obtain⟨ho,q⟩:=I.hok p _ e
 have ne:∀b u,H b=some u->(∀o v,u≠.frz o v)->b≠p:=fun b u C n z=>by
  subst z;rw [e] at C;cases C;exact n _ _ rfl
 have nn:∀b,H b=none->upd H p .aF b=none:=fun b k=>by
  rw [ay (fun z=>by subst z;rw [e] at k;cases k)];exact k
 have a:∀b xs,H b=some .dZ->upd H p .aF b=some .dZ:=fun b xs C=>by rw [ay (ne b _ C fun _ _ z=>by cases z)];exact C
 have hok:lF X.prog X.w (.Y p .aF) s.heap:=fun b u C=>by
  by_cases hb:b=p
  ·subst hb
   rw [aF] at C;cases C
   exact q.stay (fun _ _ _ k=>k) (fun c k=>by rw [ay (ne c _ k fun _ _ z=>by cases z)];exact k) a
  ·rw [ay hb] at C
   exact (I.hok b u C).stay (fun _ _ _ k=>k) (fun c k=>by rw [ay (ne c _ k fun _ _ z=>by cases z)];exact k) a
 refine⟨I.ok,I.os,I.bare,⟨I.base.keep,I.base.slot,fun b o j n hx=>nn b (I.base.free b o j n hx),I.base.there,fun b xs j=>a b xs (I.base.tups b xs j),fun b o u j=>?_,fun b ps j=>?_⟩,I.loc,I.cell,nn _ I.free,fun x c j=>nn _ (I.freeC x c j),fun z hz=>?_,hok,I.len⟩
 ·have:=I.base.frzs b o u j
  rw [ay (fun z=>by subst z;exact d o u j)]
  exact this
 ·obtain⟨m,k⟩:=I.base.tbls b ps j
  refine⟨m,?_⟩
  rw [ay (ne b _ k fun _ _ z=>by cases z)]
  exact k
 ·obtain⟨a1,a2,a3,Y,i⟩:=I.pin z hz
  exact⟨a1,nn _ a2,a3,Y,i⟩
end
section
variable {X:Cx}{Y0 Y9:Hp}{x:Nat}
end
section
variable {X:Cx}
end
section
variable {X:Cx}{o e:Expr}{pos:Pos}
end
section
variable {X:Cx}
structure Bn (K:.j)(As:.V)(C:Addr)(b:Bool):Prop where
 one:∃A q,dQ K A C q
 kit:PySem.W.kitAny K (.d C) (As.map Value.ref)=some b
def yC:List T->Option (List Addr)
 |[]=>some []
 | .ptr a::ts=>(yC ts).map (a::·)
 |_=>none
theorem wF:∀{ts:List T} {As:.V},yC ts=some As->ts=As.map T.ptr
 |[],_,h=>by cases h;rfl
 |t::ts,As,h=>by
  unfold yC at h
  split at h
  ·next h0=>cases h0
  ·next a r h0 =>
   cases h0
   obtain⟨l,e,rfl⟩:=Option.map_eq_some_iff.mp h
   rw [wF e]
   rfl
  ·cases h
noncomputable def pV (As:.V)(tbl:List .b2):List T->Option T
 |[.obj C _ _,.tup ts]=>if yC ts=some As then (findB C tbl).bind fun b=>some .f0 else none
 |_=>none
theorem Gy {As:.V}{tbl:List .b2}(Y:∀a∈tbl,Bn X.K As a.1 a.2):gf X .d6 (pV As tbl):=by
 intro pins s σ H xs us Q I N ⟨F,ts,t,R,r,e1,q⟩
 unfold pV at e1
 split at e1
 ·next C _ _ g =>
  split at e1
  ·next c =>
   obtain⟨b,e3,e1⟩:=bind_some e1
   cases e1
   have l:=wF c
   subst l
   obtain⟨v,y,rfl,h1,v2,r2,rfl,h2,rfl⟩:=r
   obtain⟨a,dx,vs,rfl,g1,_⟩:=h1
   obtain⟨tp,zs,rfl,g2,g3⟩:=h2
   cases ql (As:=As) g3
   obtain⟨L,S,rfl,m,B⟩:=Vals.two N
   cases (show S=Value.ref tp from B)
   cases (show L=Value.ref a from m)
   obtain⟨⟨_,_,ok⟩,kit⟩:=Y _ (jE e3)
   obtain⟨G,Z,⟨o,h1,h2,n,M⟩,_⟩:=I.tuple (bZ R g2)
   obtain rfl:=wW Z
   obtain⟨oc,h,j,sl⟩:=o
   cases h2
   cases M
   obtain⟨mA,O,_⟩:=mT I.hok (R _ _ g1)
   obtain⟨od,J,_⟩:=O.look
   exact PySem.W.kia_tup (zbN (ok.cl.get _) ok.cl.hd ok.ha ok.hn ok.htk ok.hm) I.kIn J h1 kit .a6 fun tk=>⟨.bl b,H,I.tok tk,rfl,q F H _ .ao rfl⟩
  ·cases e1
 ·cases e1
end
mutual
def tU:T->Bool
 | .lst ts=>qP ts
 | .tup ts=>qP ts
 | .non=>true
 | .bl _=>true
 | .int _=>true
 | .str _=>true
 | .ty _=>true
 |_=>false
def qP:List T->Bool
 |[]=>true
 |t::ts=>tU t&&qP ts
end
section
variable {K:.j}{F:Hp}{p:Addr}{o:Obj}{kvs:.bv}
theorem BD (hp:F p=some .ch){a:Addr}{u:HO}(e:F a=some u)(n:∀o kvs,u≠.frz o .aF):gd F [p] a=some u:=by
 rw [bG fun m=>by
  rw [zac.mp m,hp] at e
  cases e
  exact n _ _ rfl]
 exact e
mutual
theorem Av (hp:F p=some .ch):∀{t:T} {v:V},tU t=true->Rep K F t v->Rep K (gd F [p]) t v
 | .lst ts,v,h,⟨a,xs,e1,e2,e3⟩=>⟨a,xs,e1,BD hp e2 (fun _ _ w=>by cases w),qd hp (by simpa [tU] using h) e3⟩
 | .tup ts,v,h,⟨a,xs,e1,e2,e3⟩=>by
  refine⟨a,xs,e1,?_,qd hp (by simpa [tU] using h) e3⟩
  rcases e2 with (z | ⟨o',z⟩) | z
  ·exact .inl (.inl (BD hp z fun _ _ w=>by cases w))
  ·exact .inl (.a1 ⟨o',BD hp z fun _ _ w=>by cases w⟩)
  ·exact .inr z
 | .non,_,_,r=>r
 | .bl _,_,_,r=>r
 | .int _,_,_,r=>r
 | .str _,_,_,r=>r
 | .ty _,_,_,r=>r
 | .scr _,_,h,_=>by simp [tU] at h
 | .dct _ _,_,h,_=>by simp [tU] at h
 | .obj _ _ _,_,h,_=>by simp [tU] at h
 | .ptr _,_,h,_=>by simp [tU] at h
 | .exc _ _ _,_,h,_=>by simp [tU] at h
theorem qd (hp:F p=some .ch):∀{ts:List T} {vs:List V},qP ts=true->aM K F ts vs->aM K (gd F [p]) ts vs
 |[],_,_,r=>r
 |t::ts,_,h,⟨v,y,e,h1,h2⟩=>by
  simp only [qP,Bool.and_eq_true] at h
  exact⟨v,y,e,Av hp h.1 h1,qd hp h.2 h2⟩
end
end
section
variable {X:Cx}{Y0 Y9 F H F' H':Hp}{x:Nat}{pins:.s}{σ σ':L2.St}{s s2:Shared}{τ τ':az}{p:Addr}{d:DS}
theorem uD (I:.q)(q:qB X.K Y0 Y9 F H σ τ x p d):∃o vs,H p=some .dB/\vs.length=d.1.length/\aM X.K F d.2 vs/\Inv X pins σ (.c H) s /\
  aB X.K (.c F) (.c H) (.c F) (.c H) σ .cL:=by
 obtain⟨vs,hp,hl,hr⟩:=q.hp
 obtain⟨o,M⟩:=I.freeze hp
 have sF:aJ F (.c F):=cX q.fp
 have fh:aJ (.c F) (.c H):=fun b u e=>by
  by_cases hb:b=p
  ·rw [hb,aF] at e ⊢;exact e
  ·rw [ay hb] at e ⊢;exact q.E.g.fh b u e
 have all:∀{j:Nat} {s:Sl},((hide τ).set x (.o (.dct d.1 d.2)))[j]? = some (.aX s)->(∃t,s=.sh t)/\∃v,σ[j]? = some .cY/\zq X.K (.c H) (.c F) (.c H) s v:=fun {j s} e=>by
  by_cases P:x=j
  ·subst P
   by_cases B:x<(hide τ).length
   ·rw [zak B] at e;cases e
    exact⟨.ag,_,q.get,p,o,vs,rfl,aF,hl,aM.mono sF hr⟩
   ·rw [List.getElem?_eq_none .i] at e;cases e
  ·rw [zal P] at e
   obtain⟨e1,t,rfl⟩:=jG e
   obtain⟨v,k1,k2⟩:=q.E.sl j _ e1
   exact⟨⟨t,rfl⟩,v,k1,Rep.mono sF k2⟩
 have V:aB X.K (.c F) (.c H) (.c F) (.c H) σ .cL:=by
  refine⟨aZ.refl fh,by simp [fN,q.E.len],fun j s e=>(all e).2,fun j k ts ws p _ e1=>?_⟩
  obtain⟨t,z⟩:=(all e1).1
  cases z
 exact⟨o,vs,hp,hl,hr,M,V⟩
theorem Bc {o:Obj}{vs:List V}(I:.q)(q:qB X.K Y0 Y9 F H σ τ x p d)(hp:H p=some .dB)(hl:vs.length=d.1.length)(hr:aM X.K F d.2 vs)(j:Inv X pins σ' H' s2)
  (Z:aB X.K (.c F) (.c H) F' H' σ τ') (s':aJ (.c F) F'):
  ∃H2,Inv X pins σ' H2 s2/\qB X.K Y0 Y9 (gd F' [p]) H2 σ τ x p d/\aJ F (gd F' [p])/\F' p=some (.frz o .dB)/\H2=upd H' p .dB:=by
 have N:=Inv.nofrz I hp
 have f:F' p=some (.frz o .dB):=s' _ _ aF
 have g:H' p=some (.frz o .dB):=Z.g.fh _ _ f
 have v:p∈[p]:=zac.mpr rfl
 have nd:∀{b:Addr},b≠p->b∉[p]:=fun h m=>h (zac.mp m)
 have c:aJ F (gd F' [p]):=fun b u e=>by
  have hb:b≠p:=fun z=>by subst z;rw [q.fp] at e;cases e
  rw [bG (nd hb)]
  exact s' _ _ (by rw [ay hb];exact e)
 have k:∀b u,b≠p->H b=some u->upd H' p .dB b=some u:=fun b u hb e=>by
  rw [ay hb]
  exact Z.g.sH _ _ (by rw [ay hb];exact e)
 refine⟨_,Inv.thaw j g N,⟨⟨⟨q.E.g.sF.trans c,fun b u e=>?_,fun b u e=>?_,fun b u e=>?_⟩,q.E.len,fun i sl e=>?_,q.E.dj⟩,q.hx,⟨vs,aF,hl,aM.mono c hr⟩,q.nd,gH v,q.h0⟩,c,f,rfl⟩
 ·exact k b u (fun z=>by subst z;rw [q.h0] at e;cases e) (q.E.g.sH _ _ e)
 ·have hb:b≠p:=fun z=>by subst z;rw [gH v] at e;cases e
  rw [bG (nd hb)] at e
  rw [ay hb]
  exact Z.g.fh _ _ e
 ·have hb:b≠p:=fun z=>by subst z;rw [gH v] at e;cases e
  rw [bG (nd hb)] at e
  rcases Z.g.nw b u e with z | z
  ·rw [ay hb] at z
   exact q.E.g.nw b u z
  ·rw [ay hb] at z
   exact .a1 (q.E.g.sH.free z)
 ·obtain⟨y,k1,k2⟩:=q.E.sl i sl e
  refine⟨y,k1,?_⟩
  cases sl with
  |sh t=>exact Rep.mono c k2
  |own ts =>
   obtain⟨a,ws,rfl,W,l,A,r⟩:=k2
   have ha:a≠p:=fun z=>by subst z;rw [hp] at W;cases W
   refine⟨a,ws,rfl,k _ _ ha W,?_,A,aM.mono c r⟩
   rw [bG (nd ha)]
   cases n:F' a with
   |none=>rfl
   |some u =>
    rcases Z.g.nw a u n with z | z
    ·rw [ay ha,l] at z;cases z
    ·rw [ay ha,W] at z;cases z
noncomputable def NM (K:.j)(Y0 Y9:Hp)(x:Nat)(ft:FT):TT:=fun σ H Q=>∃F τ p d b τ',qB K Y0 Y9 F H σ τ x p d/\ft .cL=some (b,τ')/\∀F' H',qB K Y0 Y9 F' H' σ τ x p d->aJ F F'->Q b H'
theorem KH {c:Expr}{ft:FT}(U:ST X c ft):PT X c (NM X.K Y0 Y9 x ft):=fun pins s σ H Q I G=>by
 obtain⟨F,τ,p,d,b,τ',q,e1,k⟩:=G
 obtain⟨o,vs,hp,hl,hr,M,V⟩:=uD I q
 refine cF (U _ _ pins s σ _ (fun c H'=>c=b/\∃F',aB X.K (.c F) (.c H) F' H' σ τ'/\aJ (.c F) F') M ⟨_,_,b,τ',V,e1,fun F' H' Z s'=>⟨rfl,F',Z,s'⟩⟩) fun c s1 z=>?_
 obtain⟨H',j,rfl,F',Z,s'⟩:=z
 obtain⟨H2,A,q1,sF,_,_⟩:=Bc I q hp hl hr j Z s'
 exact⟨H2,A,k _ _ q1 sF⟩
noncomputable def Bh (x:Nat)(c:FT)(f g:FZ):FZ:=fun p d τ=>(c .cL).bind fun q=>if q.1=true then f p d τ else g p d τ
theorem IV {c:Expr}{a us:.a4}{tc:FT}{f g:FZ}(U:ST X c tc)(ha:Ga X x a f)(hb:Ga X x us g):SZ X x (.If c a us pos) (Bh x tc f g):=fun Y0 Y9=>PS.weak (AK (KH (Y0:=Y0) (Y9:=Y9) (x:=x) U) .bT .c4) fun D σ H G=>by
 obtain⟨F,τ,p,d,r,q,e1,k⟩:=G
 obtain⟨⟨b,τ1⟩,e2,e1⟩:=bind_some e1
 dsimp only at e1
 refine⟨F,τ,p,d,b,τ1,q,e2,fun F1 H1 E s1=>?_⟩
 split at e1
 ·next h=>rw [if_pos h];exact⟨F1,τ,p,d,r,E,e1,fun F2 H2 l J s2=>k F2 H2 l J .a5⟩
 ·next h=>rw [if_neg h];exact⟨F1,τ,p,d,r,E,e1,fun F2 H2 l J s2=>k F2 H2 l J .a5⟩
def pW:List Str->Str->List Str
 |[],_=>[]
 |n::ns,k=>if n=k then ns else n::pW ns k
noncomputable def pX {α:Type}:List Str->List α->Str->List α
 |n::ns,v::vs,k=>if n=k then vs else v::pX ns vs k
 |_,vs,_=>vs
def DS.del (d:DS)(k:Str):DS:=(pW d.1 k,pX d.1 d.2 k)
theorem zy {k a:Str}:∀{ns:.U},a∈pW ns k->a∈ns
 |[],h=>h
 |n::ns,h=>by
  unfold pW at h
  split at h
  ·exact zad _ h
  ·rcases zao.mp h with h | h
   ·exact h ▸ zae
   ·exact zad _ (zy h)
theorem sT {k:Str}:∀{ns:.U},ns.Nodup->(pW ns k).Nodup
 |[],h=>h
 |n::ns,h=>by
  obtain⟨h1,h2⟩:=zaB.mp h
  unfold pW
  split
  ·exact h2
  ·exact zaB.mpr ⟨fun z=>h1 (zy z),sT h2⟩
theorem C7 {α:Type}{k:Str}:∀{ns:.U} {vs:List α},vs.length=ns.length->(pX ns vs k).length=(pW ns k).length
 |[],[],_=>rfl
 |[],_::_,h=>by cases h
 |_::_,[],h=>by cases h
 |n::ns,v::vs,h=>by
  have h':vs.length=ns.length:=by simpa using h
  unfold pX pW
  split
  ·exact h'
  ·rw [zap,zap,C7 h']
theorem zC {k:Str}:∀{ns:.U} {vs:List V},k∉ns->lQ .gb (Sum.inr k)=bx ns vs
 |[],_,_=>by unfold bx;rfl
 |_::_,[],_=>by unfold bx;rfl
 |n::ns,v::vs,h=>by
  have h1:¬ (Sum.inr n:Key)=Sum.inr k:=fun z=>h (by cases z;exact zae)
  have A:=zC (ns:=ns) (vs:=vs) fun z=>h (zad _ z)
  unfold lQ at A ⊢
  rw [bx,List.filter_cons_of_pos (by simpa using h1),A]
theorem Dd {k:Str}:∀{ns:.U} {vs:List V},vs.length=ns.length->ns.Nodup->lQ .gb (Sum.inr k)=bx (pW ns k) (pX ns vs k)
 |[],[],_,_=>rfl
 |[],_::_,h,_=>by cases h
 |_::_,[],h,_=>by cases h
 |n::ns,v::vs,h,hn=>by
  obtain⟨h1,h2⟩:=zaB.mp hn
  by_cases e:n=k
  ·subst e
   have:=zC (vs:=vs) h1
   unfold pW pX
   rw [.e8,.e8]
   unfold lQ at this ⊢
   rw [bx,List.filter_cons_of_neg .f,this]
  ·have A:=Dd (k:=k) (vs:=vs) .au h2
   unfold pW pX
   rw [if_neg e,if_neg e]
   unfold lQ at A ⊢
   rw [bx,List.filter_cons_of_pos .fK,A,bx]
theorem AQ {K:.j}{F:Hp}{k:Str}:∀{ns:.U} {ts:List T} {vs:List V},aM K F ts vs->aM K F (pX ns ts k) (pX ns vs k)
 |[],_,_,r=>r
 |_::_,[],_,r=>by cases r;exact rfl
 |n::ns,t::ts,_,⟨v,y,e,h1,h2⟩=>by
  subst e
  unfold pX
  split
  ·exact h2
  ·exact⟨v,_,rfl,h1,AQ h2⟩
theorem qB.del {K:.j}(D:.dy){k:Str}(hk:k∈d.1):∃kvs v,H p=some .aF/\m8 kvs (Sum.inr k)=some v/\qB K Y0 Y9 F (.Y p (.dK (lQ kvs (Sum.inr k)))) σ τ x p (d.del k):=by
 obtain⟨b,hp,hl,hr⟩:=D.hp
 obtain⟨t,Y⟩:∃t,EK d.1 d.2 k=some t:=by
  have Q7:d.2.length=d.1.length:=(aM.length hr).symm.trans hl
  have:∀{ns:.U} {ts:List T},ts.length=ns.length->k∈ns->∃t,EK ns ts k=some t:=by
   intro ns
   induction ns with
   |nil=>intro ts _ h;cases h
   |cons n ns A =>
    intro ts hl h
    cases ts with
    |nil=>cases hl
    |cons t ts =>
     by_cases e:n=k
     ·exact⟨t,by rw [EK,if_pos e]⟩
     ·rw [EK,if_neg e]
      exact A (by simpa using hl) ((List.mem_cons.mp h).resolve_left fun z=>e z.symm)
  exact this Q7 hk
 obtain⟨y,R,_⟩:=CI hr Y
 refine⟨_,y,hp,R,⟨(.bm ⟨D.E.g.sF,fun a o e=>?_,fun a o e=>?_,D.E.g.nw⟩),D.hx,⟨pX d.1 b k,?_,C7 hl,AQ hr⟩,sT D.nd,D.fp,D.h0⟩⟩
 ·rw [ay (fun z=>by subst z;rw [D.h0] at e;cases e)];exact D.E.g.sH _ _ e
 ·rw [ay (fun z=>by subst z;rw [D.fp] at e;cases e)];exact D.E.g.fh _ _ e
 ·obtain⟨v,h1,h2⟩:=D.E.sl i s e
  refine⟨v,h1,?_⟩
  cases s with
  |sh t=>exact h2
  |own ts =>
   obtain⟨q,vs,rfl,k1,k2,k3,N⟩:=h2
   exact⟨q,vs,rfl,by rw [ay (fun z=>by subst z;rw [hp] at k1;cases k1)];exact k1,k2,k3,N⟩
 ·rw [aF,Dd hl D.nd]
  rfl
noncomputable def Jh (x:Nat)(fk:FE):FZ:=fun p d τ=>(fk τ).bind fun z=>match z.1 with
 | .str k=>if fW x p z.2=true/\fQ d.1 k=true then some (d.del k,z.2) else none
 |_=>none
theorem NJ {nx:Str}{q1 apos cpos pos:Pos}{i:Expr}{fk:FE}(Z:PE X .fr (uA x))(hk:SE X i fk)(m:M1 X .fr "pop" apos i cpos)
  (hs:swapsWith (.Call (.Attribute .fr "pop" apos) [i] [] cpos) none pos.line X.env=pure false:=by rfl):SZ X x (.Expr (.Call (.Attribute .fr "pop" apos) [i] [] cpos) pos) (Jh x fk):=fun Y0 Y9=>PS.weak (pf (Io Z hk.any m) hs) fun D σ H G=>by
 obtain⟨F,τ,p,d,r,q,e1,k⟩:=G
 obtain⟨⟨z,τ2⟩,e3,e1⟩:=bind_some e1
 cases z with
 |str y =>
  dsimp only at e1
  split at e1
  ·next P =>
   cases e1
   obtain⟨b,a,_⟩:=q.hp
   refine⟨_,q.get,p,rfl,.inl ⟨_,.inl a⟩,Y0,kU Y9 H p,F,τ,.str y,τ2,q.lend,e3,fun F2 H2 u O s2 r2=>?_⟩
   have J:=q.back O s2 (eJ P.1)
   cases r2
   obtain⟨kvs,v,h1,h2,M⟩:=J.del (xG P.2)
   exact⟨kvs,Sum.inr y,v,h1,rfl,h2,k F2 _ σ M s2⟩
  ·cases e1
 |_=>cases e1
noncomputable def Bi (x i no:Nat)(cap:.D)(g:FA)(fg:FG)(ft:FT)(fe:FE):FZ:=fun p d τ=>(bf no cap g fg ft fe .cL).bind fun q=>match q.1 with
 | .lst us=>if qP us=true/\fW x p (.bb (.o .e2))=true then some (d,τ.set i (.o .e2)) else none
 |_=>none
theorem K8 (i:Nat){y:Str}{n h:Pos}{elt tg iter:Expr}{l:.av}{scope:Scope}{pos:Pos}{N':.U}{no:Nat}{cap:.D}{g:FA}{fg:FG}{ft:FT}{fe:FE}(W:.eM)(E:X.N[i]? = some y)(R:.bN)
  (hx:X.xe=fun _ _=>False) (U:.bp) (B:.gm) (J:.b6)
  (K:∀(k j:Nat),cap[k]? = some j->∃x,N'[no+k]? = some x/\X.N[j]? = some x/\(x,NameKind.free)∈scope.names) (hi:.ei)
  (L:∀C cs Y8 Y9 fp pins,SG .v tg fg) (Y:∀C cs Y8 Y9 fp pins,Ey .v l ft) (he:∀C cs Y8 Y9 fp pins,SE .v elt fe)
  (S:swapsWith .R (.aX .f1) h.line X.env=pure true:=by rfl) (hs:∀x,foldedSetIterable iter X.env x=pure x:=by intro _;rfl):
  SZ X x (.bw .R) (Bi x i no cap g fg ft fe):=fun Y0 Y9 pins s σ H D I G=>by
 obtain⟨F,τ,p,d,r,q,e1,k⟩:=G
 obtain⟨⟨t,τ'⟩,e2,e1⟩:=bind_some e1
 cases t with
 |lst us =>
  dsimp only at e1
  split at e1
  ·next P =>
   cases e1
   obtain⟨o,vs,hp,hl,hr,M,V⟩:=uD I q
   refine wpAny_mono (qR i W E R hx U B J K hi L Y .dL S hs _ _ pins s σ _ ⟨fun w H1=>∃F1 v,w=σ.set i .cY/\aB X.K (.c F) (.c H) F1 H1 σ τ'/\aJ (.c F) F1/\Rep X.K F1 .e2 v,fun _ _=>False,fun _ _=>False,fun _ _=>False⟩ M
    ⟨_,_,_,τ',V,xv e2,fun F' H' v A Z s' ro nd h0 ap=>?_⟩) (fun f s1 z=>?_) (fun _ _ z=>z)
   ·have N:∀a∈A,F' a=none:=fun a ha=>(ro.at a ha).1
    have Q:=ro.frz
    rw [show (O.lst .fC).tr=.lst us by show T.lst _=_;rw [jK]] at Q
    exact⟨_,v,rfl,Z.frzO N h0 ap,s'.trans (eg N),Q⟩
   ·cases f with
    |next =>
     obtain⟨w,H1,m,F1,v,rfl,Z,s',b⟩:=z
     obtain⟨H2,c,q1,sF,N,_⟩:=Bc I q hp hl hr m Z s'
     have r2:=Av N (t:=.lst us) (by simpa [tU] using P.1) b
     exact⟨_,H2,c,k _ H2 _ ⟨q1.E.set r2,eJ P.2,q1.hp,q1.nd,q1.fp,q1.h0⟩ sF⟩
    |brk=>obtain⟨_,_,_,z⟩:=z;cases z
    |cont=>obtain⟨_,_,_,z⟩:=z;cases z
    |ret u=>obtain⟨_,_,_,_,_,z⟩:=z;cases z
  ·cases e1
 |_=>cases e1
end
noncomputable def unl (F1 F3:Hp)(a:Addr):Hp:=fun b=>match F1 b with
 |some o=>some o
 |none=>if b=a then none else nl F3 b
section
variable {K:.j}{Y0 Y9 F1 H1 F3 H3:Hp}{σ:L2.St}{τ:az}{a:Addr}
theorem uF {b:Addr}{o:HO}(h:unl F1 F3 a b=some o):F1 b=some o\/(F1 b=none/\b≠a/\F3 b=some o):=by
 unfold unl at h
 split at h
 ·next e=>cases h;exact .inl e
 ·next e =>
  split at h
  ·cases h
  ·next hb=>exact .inr ⟨e,hb,(oW h).1⟩
theorem pN:aJ F1 (unl F1 F3 a):=fun b o e=>by unfold unl;rw [e]
theorem NW (g:aZ (nl F1) H1 F3 H3)(f1:aJ F1 H1)(ha:∃xs,F3 a=some .cG){b:Addr}{o:HO}(e:F3 b=some o)(hn:∀xs,o≠.lst xs):unl F1 F3 a b=some o:=by
 unfold unl
 cases e1:F1 b with
 |some o' =>
  have M:=g.fh _ _ e
  have h1:=g.sH _ _ (f1 _ _ e1)
  rw [M] at h1
  cases h1
  rfl
 |none =>
  have hb:b≠a:=fun z=>by
   subst z
   obtain⟨xs,k⟩:=ha
   rw [k] at e
   cases e
   exact hn _ rfl
  dsimp only
  rw [if_neg hb]
  exact LD e hn
theorem aB.unl (E:aB K Y0 Y9 F1 H1 σ τ)(g:aZ (nl F1) H1 F3 H3):aB K Y0 Y9 (TM.unl F1 F3 a) H3 σ τ:=by
 refine⟨⟨E.g.sF.trans pN,E.g.sH.trans g.sH,fun b o e=>?_,fun b o e=>?_⟩,E.len,fun i sl e=>?_,E.dj⟩
 ·rcases uF e with k | ⟨_,_,k⟩
  ·exact g.sH _ _ (E.g.fh _ _ k)
  ·exact g.fh _ _ k
 ·rcases uF e with k | ⟨k0,_,k⟩
  ·exact E.g.nw _ _ k
  ·rcases g.nw _ _ k with z | z
   ·rw [(oW z).1] at k0;cases k0
   ·exact .a1 (E.g.sH.free z)
 ·obtain⟨v,k1,k2⟩:=E.sl i sl e
  refine⟨v,k1,?_⟩
  cases sl with
  |sh t=>exact Rep.mono pN k2
  |own ts =>
   obtain⟨p,ws,rfl,W,l,A,r⟩:=k2
   refine⟨p,ws,rfl,g.sH _ _ W,?_,A,aM.mono pN r⟩
   cases h:TM.unl F1 F3 a p with
   |none=>rfl
   |some o =>
    rcases uF h with k | ⟨_,_,k⟩
    ·rw [l] at k;cases k
    ·rcases g.nw _ _ k with z | z
     ·rw [(oW z).1] at l;cases l
     ·rw [W] at z;cases z
end
noncomputable def nS (alts:List .aE)(m:Str)(fo:FE):pQ:=fun τ=>(fo τ).bind fun p=>match p.1 with
 | .obj C ns ts=>if m∈ns then none else if cS (.obj C ns ts)=true then (ny C alts).bind fun d=>(d [.obj C ns ts]).bind fun t=>match t with
  | .lst us=>if fJ us=true then some (.lst .fC,p.2) else none
  |_=>none else none
 |_=>none
section
variable {X:Cx}{o:Expr}{m:Str}{apos pos:Pos}{fo:FE}{k:Nat}
theorem uu {pl:Sem Bool}{alts:List .aE}(A:∀a∈alts,cN X.prog X.w X.K X.mg X.base k a.1 m 1 a.2)(hr:eG k X.A)(he:SE X o fo)
  (Y:eval .bG X.env=(do
   let Z <- eval o X.env
   standAt apos.atName
   let (f,first) <- holding [Z] (getMethod Z m pl)
   callWith pos f first (backTo pos .gF) (backToKw pos .cR)):=by rfl):
  Bp X .bG (nS alts m fo):=by
 intro Y0 Y9 pins s σ H Q I ⟨F,τ,r,τ',E,e1,q⟩
 obtain⟨⟨x,τ1⟩,e2,e1⟩:=bind_some e1
 dsimp only at e1
 split at e1
 ·next C ns ts =>
  split at e1
  ·cases e1
  ·next hm =>
   split at e1
   ·next g =>
    obtain⟨d,e3,e1⟩:=bind_some e1
    obtain⟨t,e5,e1⟩:=bind_some e1
    split at e1
    ·next us =>
     split at e1
     ·next u =>
      cases e1
      have D:=A _ (pZ e3)
      obtain⟨f,fd,ps,Fk,hb,y,hn⟩:=D.ex
      refine P0 (AI (E:=E0) (CX:=uQ) .eB D.cl y Fk hr hb .nil AG Y) pins s σ H Q I ⟨F,τ,.obj C ns ts,τ',E,e2,fun F1 H1 v V s1 r1=>?_⟩
      obtain⟨a,dx,vs,rfl,h1,h2,M⟩:=id r1
      refine⟨a,dx,_,rfl,V.g.fh _ _ h1,nU hm,rfl,nl F1,[.obj C ns ts],.lst us,(J9 F1).trans V.g.fh,⟨_,[],rfl,qk (fun a o R hn=>LD R hn) g r1,rfl⟩,e5,fun F3 H3 J B r3 K=>?_⟩
      obtain⟨b,xs,rfl,b1,b2⟩:=r3
      have h:H1 b=none:=by
       rcases B.nw _ _ b1 with z | z
       ·exact absurd rfl ((oW z).2 xs)
       ·exact z
      have fb:F1 b=none:=V.g.fh.free h
      have G:TM.unl F1 F3 b b=none:=by unfold TM.unl;rw [fb];exact if_pos rfl
      refine q (TM.unl F1 F3 b) H3 (.d b) [b] (V.unl B) (s1.trans pN) ⟨b,xs,[],rfl,rfl,B.fh _ _ b1,G,cq.vals (gk (fun c o w hn=>NW B V.g.fh ⟨xs,b1⟩ w hn) u b2)⟩ (zaB.mpr ⟨zan,zbl⟩) (fun c U=>?_) (fun j ws p k1 k2 U=>?_)
      ·rw [zac.mp U]
       exact V.g.sH.free h
      ·rw [zac.mp U] at k2
       obtain⟨v,W,l⟩:=V.sl j _ k1
       rw [k2] at W
       cases W
       obtain⟨i,n,z,O,_⟩:=l
       cases z
       rw [h] at O
       cases O
     ·cases e1
    ·cases e1
   ·cases e1
 ·cases e1
end
section
variable {X:Cx}{pos:Pos}{x:Nat}
theorem jf.lent {K:.j}{Y0 Y9 F H:Hp}{σ:L2.St}{τ:az}{p:Addr}{os:List O}{A:.V}{D:Ends}{u:T}(d:.aW)(q:∀F' H' v,aZ Y0 Y9 F' H'->Rep K F' u v->D.rt v H'):jf K Y0 (frzO Y9 H A) F D (.rt u):=fun F' H' v g r=>q F' H' v (d.unlent g) r
noncomputable def nK (x:Nat)(f:FS):FQ:=fun p os τ=>(f τ).bind fun r=>match r with
 | .nx τ'=>if fW x p τ'=true then some (.nx os τ') else none
 | .rt u=>some (.rt u)
 |_=>none
theorem kO {st:Stmt}{f:FS}(h:SS X st f):SQ X x st (nK x f):=fun Y0 Y9 pins s σ H D I G=>by
 obtain⟨F,τ,p,os,A,r,d,e1,q⟩:=G
 obtain⟨r1,e2,e1⟩:=bind_some e1
 refine h Y0 (frzO Y9 H A) pins s σ H D I ⟨F,τ,r1,d.lend,e2,?_⟩
 cases r1 with
 |nx τ' =>
  dsimp only at e1
  split at e1
  ·next P=>cases e1;exact fun F1 H1 w V s1=>q F1 H1 w A (d.back V s1 (eJ P)) s1
  ·cases e1
 |rt u=>cases e1;exact jf.lent d q
 |bk _=>cases e1
 |ct _=>cases e1
noncomputable def nV (x:Nat)(fg:FG)(fb:FS):List T->Addr->az->Option R
 |[],_,τ=>some (.nx τ)
 |t::ts,p,τ=>if cS t=true then (fg t τ).bind fun τ1=>if fW x p τ1=true then (fb τ1).bind fun r=>match r with
  | .nx τ2=>if fW x p τ2=true then nV x fg fb ts p τ2 else none
  | .rt u=>some (.rt u)
  |_=>none else none else none
noncomputable def KJ (x:Nat)(g:FA)(fg:FG)(fb:FS):FQ:=fun p os τ=>(g (seen x os τ)).bind fun q=>(nV x fg fb q.1 p τ).bind fun r=>match r with
 | .nx τ'=>some (.nx os τ')
 | .rt u=>some (.rt u)
 |_=>none
theorem NF {tg iter:Expr}{body:.a4}{g:FA}{fg:FG}{fb:FS}(hp:.dq)(U:.bp)(hi:.ei)(L:SG X tg fg)(hb:vM X body fb)
  (hs:∀x,foldedSetIterable iter X.env x=pure x:=by intro _;rfl):SQ X x .gj (KJ x g fg fb):=fun Y0 Y9=>PS.weak (Cm hp U hi.any L.any hb.any hs) fun D σ H G=>by
 obtain⟨F,τ,p,os,A,r,d,e1,q⟩:=G
 obtain⟨⟨ts,τ0⟩,e2,e1⟩:=bind_some e1
 obtain⟨V,O,e1⟩:=bind_some e1
 refine⟨_,_,_,_,ts,τ0,d.look,e2,fun F' H' J Z s' W=>?_⟩
 have lies:∀{F H:Hp} {σ:L2.St} {τ:az},m9 X.K Y0 Y9 F H σ τ x p os A->∀a∈A,F a=none:=fun d a ha=>(d.lies ha).1
 have E:=d.grow (jY (lies d) Z.g)
 have hS:∀{F1 H1:Hp} {w:L2.St} {τ1:az},m9 X.K Y0 Y9 F1 H1 w τ1 x p os A->aJ (gd F' A) F1->(∀a∈A,H1 a=H' a)->aJ F' (frzO F1 H1 A)/\aJ (frzO F1 H1 A) H1:=fun {F1 H1 w τ1} D1 s1 hA=>by
  refine⟨fun b o e=>?_,fun b o e=>?_⟩
  ·by_cases m:b∈A
   ·rw [fA m,hA b m];exact Z.g.fh _ _ e
   ·rw [cH m];exact s1 _ _ (by rw [bG m];exact e)
  ·by_cases m:b∈A
   ·rw [fA m] at e;exact e
   ·rw [cH m] at e;exact D1.E.g.fh _ _ e
 refine⟨fun i m w H1=>m=ts.length-i/\i≤ts.length/\∃F1 τ1,m9 X.K Y0 Y9 F1 H1 w τ1 x p os A/\aJ (gd F' A) F1/\(∀a∈A,H1 a=H' a)/\nV x fg fb (ts.drop i) p τ1=some V,⟨_,rfl,zaU _,_,τ,E,aJ.refl _,fun _ _=>rfl,O⟩,?_⟩
 rintro i m w H1 ⟨rfl,hi,F1,τ2,D1,s1,hA,e3⟩
 obtain⟨S1,S2⟩:=hS D1 s1 hA
 by_cases B:i<ts.length
 ·have hd:.iJ:=zaY B
  have L:.gY:=zav B
  rw [hd] at e3
  unfold nV at e3
  split at e3
  ·next t =>
   obtain⟨S,e4,e3⟩:=bind_some e3
   split at e3
   ·next M =>
    obtain⟨Y,e5,e3⟩:=bind_some e3
    refine .a1 ⟨W.go i _ _ H1 L S1 S2,fun σ H=>∃F1 τ1,m9 X.K Y0 Y9 F1 H σ τ1 x p os A/\aJ (gd F' A) F1/\(∀a∈A,H a=H' a)/\nV x fg fb (ts.drop (i+1)) p τ1=some V,fun σ' H' n=>⟨_,.d,rfl,B,n⟩,fun y H2 z=>?_⟩
    obtain⟨F2,c,N⟩:=W.yld i _ _ H1 y H2 L S1 S2 z
    have g2:=jY (lies D1) c
    have D2:=D1.grow g2
    have hA2:∀a∈A,H2 a=H1 a:=fun a ha=>by
     obtain⟨vs,k⟩:=(D1.lies ha).2
     rw [k];exact g2.sH _ _ k
    have rx':Rep X.K (gd F2 A) ts[i] y:=qk (fun a o R hn=>by
     rw [bG fun m=>by
      obtain⟨vs,k⟩:=(D2.lies m).2
      have:=c.fh _ _ R
      rw [k] at this
      cases this
      exact hn _ rfl]
     exact R) t N
    refine⟨Y0,frzO Y9 H2 A,gd F2 A,τ2,ts[i],S,D2.lend,rx',e4,fun F3 H3 j T C=>?_⟩
    have D3:=D2.back T C (eJ M)
    have v:∀{Fa Ha Fb Hb:Hp} {σa σb:L2.St} {τa τb:az},m9 X.K Y0 Y9 Fa Ha σa τa x p os A->aB X.K Y0 (frzO Y9 Ha A) Fb Hb σb τb->∀a∈A,Hb a=Ha a:=fun {Fa Ha Fb Hb σa σb τa τb} Da Eb a ha=>by
     obtain⟨vs,k⟩:=(Da.lies ha).2
     rw [k];exact Eb.g.sH _ _ (by rw [fA ha];exact k)
    have hA3:=v D2 T
    refine⟨Y0,frzO Y9 H3 A,F3,S,Y,D3.lend,e5,?_⟩
    have Q:aJ (gd F' A) F3:=s1.trans (g2.sF.trans C)
    cases Y with
    |nx l =>
     dsimp only at e3
     split at e3
     ·next K =>
      exact fun I f s h P=>⟨I,l,D3.back h P (eJ K),Q.trans P,fun a ha=>by rw [v D3 h a ha,hA3 a ha,hA2 a ha,hA a ha],e3⟩
     ·cases e3
    |rt u =>
     cases e3
     cases e1
     exact jf.lent D3 q
    |bk _=>cases e3
    |ct _=>cases e3
   ·cases e3
  ·cases e3
 ·have he:i=ts.length:=.d
  subst he
  rw [zbh] at e3
  cases e3
  cases e1
  have sF:aJ F (gd F' A):=(jY (lies d) Z.g).sF
  exact .inl ⟨W.stop _ H1 S1 S2,q F1 H1 w A D1 (sF.trans s1)⟩
end
def NU:PyData->Option (List PyData)
 | .tuple ds=>some ds
 |_=>none
noncomputable def EV (a b:T):Option T:=(rY a).bind fun d=>(rY b).bind fun q=>(NU q).bind fun ds=>if SeqAt.shaped d=true/\SeqAt.shaped (.list ds)=true then some (.bl (ds.any fun y=>PyData.eqv y d)) else none
theorem MT {X:Cx}(hu:.bi):lh X (.ag .In) EV:=by
 intro pins s σ H x y v u Q I N S ⟨F,a,b,t,R,m,B,e,q⟩
 obtain⟨E,e1,e⟩:=bind_some e
 obtain⟨J,e2,e⟩:=bind_some e
 obtain⟨ds,e3,e⟩:=bind_some e
 split at e
 ·next hs =>
  cases e
  cases J<;>cases e3
  obtain⟨as,q1⟩:=dC I R e1 m N
  obtain⟨bs,q2⟩:=dC I R e2 B S
  obtain⟨h1,h2⟩:=xM (X:=X) (hu:=hu) (d:=E) hs.2
  exact SeqAt.in_tuple_reads q2 q1 h1 .iR h2 .bj
 ·cases e
end TM
set_option maxHeartbeats 4000000
namespace My
open PySem PySem.Spec PyProof.Rows L2 TM
variable {K:.j}
abbrev fB (t:T):Option Sl:='0' t
abbrev bj (n:Nat):T:=.int n
abbrev bH (i:Nat):FA:=ag (ae i) ao
abbrev aH (i:Int):FE:=fC .eQ
noncomputable def top (i:Nat):Stmt:=PySem.Challenge.pw_echohouse_k21_wirings_told.main.body.getD i (.Pass .g9)
section
variable {P:.ai}{w:World}{K:.j}{mg:.G}{base:Heap}{k:Nat}{f:Addr}{fd:.e7}
abbrev uj:Stmt:=top 13
noncomputable def sx (n:Nat)(q:.Y):FS:=
  (aL (uS 0 1 (.a (.d sQ 0) (.d sQ 1)))
  (aL (cP .dY (aL .em
  (cG .dY (lS (ai q (.v 0 1)) (cu (aD (ah 0) (.c 1 2)))) bK)) n)
  (aL (cP (bR (.a jM 1 0)) .em n)
  (bo (ae 0)))))
theorem gw:aG ["one",.g0,"factors"] ["one",.g0] (ax uj):=by walk_at "sc"
theorem Fv (n:Nat)(F:eN K "common" "common" uj f fd)(hb:Binds K fd ["one",.g0] [])(hm:mg "common" = some (.d f))(q1:Def P w K mg base k "half" 2 q)(q2:mg "abs" = none)(q3:mg "SHORT" = some (.ae 4000 q4)):
  Def P w K mg base (k+1) "common" 2 (cy 3 2 (sx n q)):=
 bT F gw hb hm fun cdv A outer s H E hr=>(aq (.af (.bz (.i 0)) (.bz (.i 1)))
  (aq (mJ n PassesOwn.never (.U (D7 (.a 1)) q3) (aq (.af (.a 1) (aV fK (.a 0) (.a 1)))
  (aw (cL (.U (D7 (.a 1)) q3) (aw (qy (.u q1 (.V 0 1)) (ff rfl (bc (aE 0 gw.nd rfl .t) (.az (aE 1 gw.nd rfl .t) (aE 2 gw.nd rfl .t))) (bq (bq (bq eZ)))))) bA))))
  (aq (mJ n PassesOwn.never (.l (.a 1) au) (aw (.af (.a 1) (aV fK (.a 0) (.a 1)))))
  (.H (.a 0)))))
abbrev Nr:Stmt:=top 14
abbrev om:Stmt:=top 22
def sy:FS:=
  (bo (iz (.t bM (fC (.ty "int"))) (xy JL (.t bM (fC (.ty "bool"))))))
theorem A2:aG ["thing"] ["thing"] (ax om):=by walk_at "sc"
theorem AD (F:eN K "is_whole" "is_whole" om f fd)(hb:Binds K fd ["thing"] [])(hm:mg "is_whole" = some (.d f))(q5:mg "int" = none)(q6:.bQ)(a:mg "bool" = none):
  Def P w K mg base (k+1) "is_whole" 1 (.aV (sy)):=
 bT F A2 hb hm fun cdv A outer s H E hr=>(aw (aP (mI (.B (.a 0) q5) (oy (Nu (.ak lO (qT rfl a rfl)))))))
abbrev jw:Stmt:=top 23
noncomputable def jh (c d:.Y):FS:=
  (aL (.aQ (uO (.a2 (.t bM (fC (.ty "tuple")))) (.D .d1 (aH 2))))
  (aL (lS (ae 0) (cu (.c 1 2)))
  (bo (iz (.d c 1) (iz (.d c 2) (iz (.a O1 2 1) (ar eO (ai d (.v 1 2)) (aH 1))))))))
theorem iI:aG ["thing","top","bottom"] ["thing"] (ax jw):=by walk_at "sc"
theorem ub (F:eN K "is_fraction" "is_fraction" jw f fd)(hb:Binds K fd ["thing"] [])(hm:mg "is_fraction" = some (.d f))(a:Def P w K mg base k "is_whole" 1 c)(b:Def P w K mg base k "common" 2 d)(l:mg "tuple" = none)(q6:.bQ)(t:.cb):
  Def P w K mg base (k+1) "is_fraction" 1 (cy 3 1 (jh c d)):=
 bT F iI hb hm fun cdv A outer s H E hr=>(aq (.M (iL (gD (ck (.B (.a 0) l))) (iM (.l (.aN 0) au))) (.H jJ))
  (aq (qy (.a 0) (.aB (.az (aE 1 iI.nd rfl .t) (aE 2 iI.nd rfl .t))))
  (.H (mI (.h a 1) (mI (.h a 2) (mI (gy LK (.a 2) au (aX _)) (oy (gy .aH (.u b (.V 1 2)) au (aX _)))))))))
abbrev mG:Stmt:=top 27
noncomputable def qG (a:.Y):FS:=
  (aL (cj 1 (zk .hB .cU (fC .d0)))
  (aL (cj 2 (.f a (ai sQ (.a3 .af))))
  (aL (.bh (.c aU 1 2))
  (bo (.ac (.c aU 1 2) (.f a (.J 0 1)))))))
theorem kL:aG ["one","sign","top"] ["one"] (ax mG):=by walk_at "sc"
theorem yB (F:eN K "show_frac" "show_frac" mG f fd)(hb:Binds K fd ["one"] [])(hm:mg "show_frac" = some (.d f))(b:Def P w K mg base k "figures" 1 a)(q2:mg "abs" = none):
  Def P w K mg base (k+1) "show_frac" 1 (cy 3 1 (qG a)):=
 bT F kL hb hm fun cdv A outer s H E hr=>(aq (cb 1 kL.nd rfl .t (wL (bb HY .eR au (aX _)) aY aY))
  (aq (cb 2 kL.nd rfl .t (.ab b (.bz (af .eR aj))))
  (aq (.ax (bb .aH .eR au (aX _)) (.S (.a 1) 2))
  (.H (aV bh (aV bh (.S (.a 1) 2) aY) (.ab b .eR))))))
abbrev qo:Stmt:=top 28
noncomputable def vQ (n:Nat):FS:=
  (aL (bN 1 ao)
  (aL (cP (bR (.m O1 .fm)) (aL (lS (.t OC .fm) (cu (.c 0 2)))
  (eY 1 (ar Ms (.d lq 2) (aH 36)))) n)
  (aL (eY 1 (.d lq 0))
  .dX)))
theorem kI:aG ["number","blocks","block"] ["number"] (ax qo):=by walk_at "sc"
theorem Ce (n:Nat)(F:eN K "figures" "figures" qo f fd)(hb:Binds K fd ["number"] [])(hm:mg "figures" = some (.d f))(b:mg "divmod" = none)(a:mg "str" = none):
  Def P w K mg base (k+1) "figures" 1 (cy 3 1 (vQ n)):=
 bT F kI hb hm fun cdv A outer s H E hr=>(aq (ei 1 kI.nd rfl .t aj)
  (aq (mJ n PassesOwn.never (bb LK (.a 0) (aV Ia au au) (aX _)) (aq (qy (aI OB rfl b rfl (.i (.a 0) (aV Ia au au))) (.aB (.az (aE 0 kI.nd rfl .t) (aE 2 kI.nd rfl .t))))
  (aw (.aj 1 (gx PySem.F.slot_str_zfill PySem.F.type_str_zfill Pw O5 (.f sM a 2) au)))))
  (aq (.aj 1 (.f sM a 0))
  (.H (.aM (FD 1 (pv 1) (mY (II CH au))))))))
abbrev mD:Stmt:=top 29
noncomputable def iU (b c d:.Y):FS:=
  (aL (cG (.a2 (.t bM (fC (.ty "str")))) gi bK)
  (aL (lS (.m qM (fC (.str "/"))) (cu (aD (ah 1) (.c 2 3))))
  (aL (cG (.a2 (ae 2)) (cj 3 (fC (.str "1"))) bK)
  (aL (cG (uO (.a2 (.f b (ar tj (ae 1) .cU))) (.a2 (.d b 3))) gi bK)
  (aL (cj 4 (dz (.a (.d fU 1) (.d fU 3))))
  (aL (cG (uO (.a2 (.d c 4)) (.D (.d d 4) (ae 0))) gi bK)
  (bo (ae 4))))))))
theorem eV:aG ["text","top","stroke","bottom","one"] .hh (ax mD):=by walk_at "sc"
theorem yy (F:eN K "read_frac" "read_frac" mD f fd)(hb:Binds K fd .hh [])(hm:mg "read_frac" = some (.d f))(g:Def P w K mg base k "is_figures" 1 b)(h:Def P w K mg base k "is_fraction" 1 c)(j:Def P w K mg base k "show_frac" 1 d)(a:mg "str" = none)(q6:.bQ)(q5:mg "int" = none):
  Def P w K mg base (k+1) "read_frac" 1 (cy 5 1 (iU b c d)):=
 bT F eV hb hm fun cdv A outer s H E hr=>(aq (cL (gD (ck (.ak lO (qT rfl a rfl)))) (aw gP) bA)
  (aq (qy (gx PySem.F.slot_str_partition PySem.F.type_str_partition J8 JP (.a 0) aY) (ff rfl (bc (aE 1 eV.nd rfl .t) (.az (aE 2 eV.nd rfl .t) (aE 3 eV.nd rfl .t))) (bq (bq (bq eZ)))))
  (aq (cL (gD (ck (.a 2))) (aw (cb 3 eV.nd rfl .t aY)) bA)
  (aq (cL (SW.st (iL (gD (ck (.ab g (gx zbu zbv HF Hf (.a 1) aY)))) (iM (gD (ck (.h g 3)))))) (aw gP) bA)
  (aq (cb 4 eV.nd rfl .t (er (.i (.f rK q5 1) (.f rK q5 3))))
  (aq (.M (iL (gD (ck (.h h 4))) (iM (.l (.h j 4) (.a 0)))) (aw gP))
  (.H (.a 4))))))))
theorem rl:(["sign"]:List Str).Nodup:=.c
abbrev kF:Stmt:=top 30
def oK:FS:=
  (bo (iz (.an 30) (.f mZ .bC)))
theorem vH:.ar .hh kF:=by walk_at "sc"
theorem vz (F:eN K "is_figures" "is_figures" kF f fd)(hb:Binds K fd .hh [])(hm:mg "is_figures" = some (.d f))(t:.cb)(a:mg "all" = none)(b:mg "MOST_FIGURES" = some (.ae 30 c)):
  Def P w K mg base (k+1) "is_figures" 1 (.aV (oK)):=
 bT F vH hb hm fun cdv A outer s H E hr=>(aw (aP (mI (A3 qQ qQ au (.aN 0) (eM rfl b)) (oy (.bv (.az (bQ (N':=["sign"]) (no:=1) (cap:=[]) rfl rfl .b0 rfl .bZ (IM (.a 0)) (fun _ _ _ _ _ _=>(aE 0 rl rfl .t)) .aT (fun _ _ _ _ _ _=>(gy HW (.a 0) aY rfl)))))))))
abbrev mw:Stmt:=inClass (top 32) 0
def qF:FS:=
  (bo (fC .d0))
theorem yH:.aa mw:=by walk_at "sc"
theorem vm {C:Addr}(F:eN K "row" "Part.row" mw f fd)(hb:.a8)(cl:dE K C)(hm:.gO):
  cN P w K mg base (k+1) C "row" 1 (.aV (qF)):=
 du F yH hb cl hm fun cdv A outer s H E hr=>(aw (aP aY))
abbrev jt:Stmt:=inClass (top 32) 1
def nh:FS:=
  (bo (dz ao))
theorem uo:.aa jt:=by walk_at "sc"
theorem lb {C:Addr}(F:eN K "wants" "Part.wants" jt f fd)(hb:.a8)(cl:dE K C)(hm:.hL):
  cN P w K mg base (k+1) C "wants" 1 (.aV (nh)):=
 du F uo hb cl hm fun cdv A outer s H E hr=>(aw (aP (er aj)))
abbrev iE:Stmt:=inClass (top 33) 0
def fS:Addr->FI:=
  (lr "name" (ae 1)
  BP)
theorem rD:.ar .fS iE:=by walk_at "sc"
theorem ML {C:Addr}{o:Str}(F:eN K "__init__" "In.__init__" iE f fd)(hb:Binds K fd .fS [])(cl:dE K C)(M:Mk K C f)(hm:.fG)(a:ba K C "name"):
  iu P w K mg base (k+2) o C 1 (dI 2 1 (fS)):=
 mS F rD hb M hm rfl fun cdv A outer s H E hr=>(dO cl a (pv 0) (.a 1)
  mX)
abbrev qm:Stmt:=inClass (top 33) 1
def vP (i c b g:Addr):FS:=
  (bo (zG [(fC (.str "in ")),(vJ .cs)]))
theorem Cp:.aa qm:=by walk_at "sc"
theorem Az {C:Addr}(F:eN K "row" "In.row" qm f fd)(hb:.a8)(cl:dE K C)(hm:.gO)(q:∀C∈[i,c,b,g],dE K C/\ba K C "name"):
  cN P w K mg base (k+1) C "row" 1 (.aV (vP i c b g)):=
 du F Cp hb cl hm fun cdv A outer s H E hr=>(aw (aP (rW (.a5 q))))
abbrev gm:Stmt:=inClass (top 34) 0
def eP:Addr->FI:=
  (lr "name" (ae 1)
  (lr "source" (ae 2)
  BP))
theorem pq:.ar .gE gm:=by walk_at "sc"
theorem HS {C:Addr}{o:Str}(F:eN K "__init__" "Cell.__init__" gm f fd)(hb:Binds K fd .gE [])(cl:dE K C)(M:Mk K C f)(hm:.fG)(a:ba K C "name")(b:ba K C "source"):
  iu P w K mg base (k+2) o C 2 (dI 3 2 (eP)):=
 mS F pq hb M hm rfl fun cdv A outer s H E hr=>(dO cl a (pv 0) (.a 1)
  (dO cl b (pv 0) (.a 2)
  mX))
abbrev mm:Stmt:=inClass (top 34) 1
def qD (i c b g h:Addr):FS:=
  (bo (zG [(fC (.str "cell ")),(vJ .cs),.cx,(vJ .c8)]))
theorem yF:.aa mm:=by walk_at "sc"
theorem vh {C:Addr}(F:eN K "row" "Cell.row" mm f fd)(hb:.a8)(cl:dE K C)(hm:.gO)(q:∀C∈[i,c,b,g],dE K C/\ba K C "name")(n:∀C∈[c,b,h],dE K C/\ba K C "source"):
  cN P w K mg base (k+1) C "row" 1 (.aV (qD i c b g h)):=
 du F yF hb cl hm fun cdv A outer s H E hr=>(aw (aP (rW (eC aY (eC (oq (.aC q)) (.a5 n))))))
abbrev jr:Stmt:=inClass (top 34) 2
def nc (c b h:Addr):FS:=
  (bo (dz (.a3 .c8)))
theorem uk:.aa jr:=by walk_at "sc"
theorem rq {C:Addr}(F:eN K "wants" "Cell.wants" jr f fd)(hb:.a8)(cl:dE K C)(hm:.hL)(n:∀C∈[c,b,h],dE K C/\ba K C "source"):
  cN P w K mg base (k+1) C "wants" 1 (.aV (nc c b h)):=
 du F uk hb cl hm fun cdv A outer s H E hr=>(aw (aP (er (.az (.aC n)))))
abbrev gn:Stmt:=inClass (top 35) 0
def eQ:Addr->FI:=
  (lr "name" (ae 1)
  (lr "by" (ae 2)
  (lr "source" (ae 3)
  BP)))
theorem pw:.ar .eW gn:=by walk_at "sc"
theorem HU {C:Addr}{o:Str}(F:eN K "__init__" "Gain.__init__" gn f fd)(hb:Binds K fd .eW [])(cl:dE K C)(M:Mk K C f)(hm:.fG)(a:ba K C "name")(c:ba K C "by")(b:ba K C "source"):
  iu P w K mg base (k+2) o C 3 (dI 4 3 (eQ)):=
 mS F pw hb M hm rfl fun cdv A outer s H E hr=>(dO cl a (pv 0) (.a 1)
  (dO cl c (pv 0) (.a 2)
  (dO cl b (pv 0) (.a 3)
  mX)))
abbrev mr:Stmt:=inClass (top 35) 1
noncomputable def qE (i c b g h:Addr)(d:.Y):FS:=
  (bo (zG [(fC (.str "gain ")),(vJ .cs),.cx,(vJ (.f d (cY [b] "by" (ae 0)))),.cx,(vJ .c8)]))
theorem yG:.aa mr:=by walk_at "sc"
theorem vk {C:Addr}(F:eN K "row" "Gain.row" mr f fd)(hb:.a8)(cl:dE K C)(hm:.gO)(j:Def P w K mg base k "show_frac" 1 d)(q:∀C∈[i,c,b,g],dE K C/\ba K C "name")(O:∀C∈[b],dE K C/\ba K C "by")(n:∀C∈[c,b,h],dE K C/\ba K C "source"):
  cN P w K mg base (k+1) C "row" 1 (.aV (qE i c b g h d)):=
 du F yG hb cl hm fun cdv A outer s H E hr=>(aw (aP (rW (eC aY (eC (oq (.aC q)) (eC aY (eC (oq (.ab j (.aC O))) (.a5 n))))))))
abbrev js:Stmt:=inClass (top 35) 2
def ng (c b h:Addr):FS:=
  (bo (dz (.a3 .c8)))
theorem um:.aa js:=by walk_at "sc"
theorem rA {C:Addr}(F:eN K "wants" "Gain.wants" js f fd)(hb:.a8)(cl:dE K C)(hm:.hL)(n:∀C∈[c,b,h],dE K C/\ba K C "source"):
  cN P w K mg base (k+1) C "wants" 1 (.aV (ng c b h)):=
 du F um hb cl hm fun cdv A outer s H E hr=>(aw (aP (er (.az (.aC n)))))
abbrev gY:Stmt:=inClass (top 36) 0
def fy:Addr->FI:=
  (lr "name" (ae 1)
  (lr "terms" (ae 2)
  BP))
theorem qr:.ar .fi gY:=by walk_at "sc"
theorem Ki {C:Addr}{o:Str}(F:eN K "__init__" "Sum.__init__" gY f fd)(hb:Binds K fd .fi [])(cl:dE K C)(M:Mk K C f)(hm:.fG)(a:ba K C "name")(b:ba K C "terms"):
  iu P w K mg base (k+2) o C 2 (dI 3 2 (fy)):=
 mS F qr hb M hm rfl fun cdv A outer s H E hr=>(dO cl a (pv 0) (.a 1)
  (dO cl b (pv 0) (.a 2)
  mX))
theorem nE:(["sign","name"]:List Str).Nodup:=.c
abbrev og:Stmt:=inClass (top 36) 1
noncomputable def jP (i c b g:Addr):FS:=
  (bo (ar cU .cx (ar aU (eI (.a .cd .cs)) (.aa (cY [g] "terms" (ae 0)) .eP))))
theorem AZ:.aa og:=by walk_at "sc"
theorem yq {C:Addr}(F:eN K "row" "Sum.row" og f fd)(hb:.a8)(cl:dE K C)(hm:.gO)(q:∀C∈[i,c,b,g],dE K C/\ba K C "name")(z:∀C∈[g],dE K C/\ba K C "terms"):
  cN P w K mg base (k+1) C "row" 1 (.aV (jP i c b g)):=
 du F AZ hb cl hm fun cdv A outer s H E hr=>(aw (aP (.aM (aV bh (hV (.i aY (.aC q))) (bQ (N':=["sign","name"]) (no:=2) (cap:=[]) rfl rfl .b0 rfl .bZ (bV (.aC z)) (.Q (.u nE)) .aT (fun _ _ _ _ _ _=>(wL (.H (.a 0) au) (.a 1) (.S aY 1))))))))
theorem kX:(["sign","name"]:List Str).Nodup:=.c
abbrev kq:Stmt:=inClass (top 36) 2
def h9 (g:Addr):FS:=
  (bo (.f gh (.aa (cY [g] "terms" (ae 0)) (ae 1))))
theorem vC:.aa kq:=by walk_at "sc"
theorem tX {C:Addr}(F:eN K "wants" "Sum.wants" kq f fd)(hb:.a8)(cl:dE K C)(hm:.hL)(z:∀C∈[g],dE K C/\ba K C "terms")(l:mg "tuple" = none):
  cN P w K mg base (k+1) C "wants" 1 (.aV (h9 g)):=
 du F vC hb cl hm fun cdv A outer s H E hr=>(aw (aP (.ay (bQ (N':=["sign","name"]) (no:=2) (cap:=[]) rfl rfl .b0 rfl .bZ (bV (.aC z)) (.Q (.u kX)) .aT (fun _ _ _ _ _ _=>(aa 1 (pv 1)))))))
abbrev gX:Stmt:=inClass (top 37) 0
def fw:Addr->FI:=
  (lr "source" (ae 1)
  BP)
theorem qq:aG ["self",.cQ] ["self",.cQ] (ax gX):=by walk_at "sc"
theorem Kh {C:Addr}{o:Str}(F:eN K "__init__" "Out.__init__" gX f fd)(hb:Binds K fd ["self",.cQ] [])(cl:dE K C)(M:Mk K C f)(hm:.fG)(b:ba K C "source"):
  iu P w K mg base (k+2) o C 1 (dI 2 1 (fw)):=
 mS F qq hb M hm rfl fun cdv A outer s H E hr=>(dO cl b (pv 0) (.a 1)
  mX)
abbrev oa:Stmt:=inClass (top 37) 1
def sv (c b h:Addr):FS:=
  (bo (zG [(fC (.str "out ")),(vJ .c8)]))
theorem AY:.aa oa:=by walk_at "sc"
theorem yp {C:Addr}(F:eN K "row" "Out.row" oa f fd)(hb:.a8)(cl:dE K C)(hm:.gO)(n:∀C∈[c,b,h],dE K C/\ba K C "source"):
  cN P w K mg base (k+1) C "row" 1 (.aV (sv c b h)):=
 du F AY hb cl hm fun cdv A outer s H E hr=>(aw (aP (rW (.a5 n))))
abbrev ko:Stmt:=inClass (top 37) 2
def oI (c b h:Addr):FS:=
  (bo (dz (.a3 .c8)))
theorem vB:.aa ko:=by walk_at "sc"
theorem tW {C:Addr}(F:eN K "wants" "Out.wants" ko f fd)(hb:.a8)(cl:dE K C)(hm:.hL)(n:∀C∈[c,b,h],dE K C/\ba K C "source"):
  cN P w K mg base (k+1) C "wants" 1 (.aV (oI c b h)):=
 du F vB hb cl hm fun cdv A outer s H E hr=>(aw (aP (er (.az (.aC n)))))
theorem lx:.bK:=.c
theorem ly:.bK:=.c
theorem lA:.bK:=.c
abbrev fL:Stmt:=inClass (top 47) 0
noncomputable def dM (r i c b g h j:Addr)(q t u v:.Y):Addr->FI:=
  (Fg (cj 2 (.d q 1))
  (Fg (wg (.d t 2))
  (Fg (wg (.d u 2))
  (lr "whole" (ae 1)
  (lr "all_parts" (.d gh 2)
  (lr "in_parts" (.f gh (.j (ae 2) (bU (cK [.il,(i,true),.iu,(b,false),(g,false),.iq,.io] (ae 0)))))
  (lr "cell_parts" (.f gh (.j (ae 2) (bU (.y (c,true) .iq))))
  (lr "out_parts" (.f gh (.j (ae 2) (bU (.y .iu (h,true)))))
  (lr "inner_parts" (.f gh (.d v 2))
  BP)))))))))
theorem hZ:aG ["self","text","parts"] ["self","text"] (ax fL):=by walk_at "sc"
theorem Cd {C:Addr}{o:Str}(F:eN K "__init__" "Wiring.__init__" fL f fd)(hb:Binds K fd ["self","text"] [])(cl:dE K C)(M:Mk K C f)(hm:.fG)(x:ba K C "whole")(y:ba K C "all_parts")(z:ba K C "in_parts")(B:ba K C "cell_parts")(D:ba K C "out_parts")(G:ba K C "inner_parts")(I:Def P w K mg base k "read_parts" 1 q)(J:Def P w K mg base k "refuse_names" 1 t)(L:Def P w K mg base k "refuse_counts" 1 u)(O:Def P w K mg base k "in_order" 1 v)(m:∀a∈[.il,(i,true),.iu,(b,false),(g,false),.iq,.io],dQ K i a.1 a.2)(d:∀a∈[.il,(i,false),(c,true),(b,false),(g,false),.iq,.io],dQ K c a.1 a.2)(n:∀a∈[.il,(i,false),.iu,(b,false),(g,false),(h,true),.io],dQ K h a.1 a.2)(Q:mg "Cell" = some (.d c))(p:mg "In" = some (.d i))(N:mg "Out" = some (.d h))(l:mg "tuple" = none)(q6:.bQ):
  iu P w K mg base (k+2) o C 1 (dI 3 1 (dM r i c b g h j q t u v)):=
 mS F hZ hb M hm rfl fun cdv A outer s H E hr=>(yP (cb 2 hZ.nd rfl .t (.h I 1))
  (yP (El (.h J 2))
  (yP (El (.h L 2))
  (dO cl x (pv 0) (.a 1)
  (dO cl y (pv 0) (.f fT l 2)
  (dO cl z (pv 0) (.ay (.e (.a 2) (fun _ _ _ _ _ _=>(aE 0 lx rfl .t)) (ck (.n m p))))
  (dO cl B (pv 0) (.ay (.e (.a 2) (fun _ _ _ _ _ _=>(aE 0 ly rfl .t)) (ck (.n d Q))))
  (dO cl D (pv 0) (.ay (.e (.a 2) (fun _ _ _ _ _ _=>(aE 0 lA rfl .t)) (ck (.n n N))))
  (dO cl G (pv 0) (.ay (.h O 2))
  mX)))))))))
abbrev iG:Stmt:=inClass (top 47) 1
def lK (j:Addr):FS:=
  (bo (cY [j] "whole" (ae 0)))
theorem rF:.aa iG:=by walk_at "sc"
theorem qf {C:Addr}(F:eN K "text" "Wiring.text" iG f fd)(hb:.a8)(cl:dE K C)(hm:Meth K C "text" f)(a:∀C∈[j],dE K C/\ba K C "whole"):
  cN P w K mg base (k+1) C "text" 1 (.aV (lK j)):=
 du F rF hb cl hm fun cdv A outer s H E hr=>(aw (aP .jb))
abbrev hG:Stmt:=inClass (top 47) 2
def kT (j:Addr):FS:=
  (bo (.f dList (cY [j] "all_parts" (ae 0))))
theorem qu:.aa hG:=by walk_at "sc"
theorem oY {C:Addr}(F:eN K "parts" "Wiring.parts" hG f fd)(hb:.a8)(cl:dE K C)(hm:Meth K C "parts" f)(a:∀C∈[j],dE K C/\ba K C "all_parts")(q:mg "list" = none):
  cN P w K mg base (k+1) C "parts" 1 (.aV (kT j)):=
 du F qu hb cl hm fun cdv A outer s H E hr=>(aw (aP (bP Js rfl q rfl (.az .jb))))
abbrev ju:Stmt:=inClass (top 47) 3
def nk (j:Addr):FS:=
  (bo (.f bJ (cY [j] "in_parts" (ae 0))))
theorem uq:.aa ju:=by walk_at "sc"
theorem rB {C:Addr}(F:eN K "ins" "Wiring.ins" ju f fd)(hb:.a8)(cl:dE K C)(hm:Meth K C "ins" f)(a:∀C∈[j],dE K C/\ba K C "in_parts")(t:.cb):
  cN P w K mg base (k+1) C "ins" 1 (.aV (nk j)):=
 du F uq hb cl hm fun cdv A outer s H E hr=>(aw (aP (.h .jb)))
abbrev iF:Stmt:=inClass (top 47) 4
def lJ (j:Addr):FS:=
  (bo (.f bJ (cY [j] "out_parts" (ae 0))))
theorem rE:.aa iF:=by walk_at "sc"
theorem qe {C:Addr}(F:eN K "outs" "Wiring.outs" iF f fd)(hb:.a8)(cl:dE K C)(hm:Meth K C "outs" f)(a:∀C∈[j],dE K C/\ba K C "out_parts")(t:.cb):
  cN P w K mg base (k+1) C "outs" 1 (.aV (lJ j)):=
 du F rE hb cl hm fun cdv A outer s H E hr=>(aw (aP (.h .jb)))
theorem jI:.bK:=.c
abbrev eK:Stmt:=inClass (top 47) 5
def gJ (j i c b g:Addr):FS:=
  (bo (.Q (aR (cY [j] "cell_parts" (ae 0))) .cs))
theorem lD:.aa eK:=by walk_at "sc"
theorem ki {C:Addr}(F:eN K "cell_names" "Wiring.cell_names" eK f fd)(hb:.a8)(cl:dE K C)(hm:Meth K C "cell_names" f)(a:∀C∈[j],dE K C/\ba K C "cell_parts")(q:∀C∈[i,c,b,g],dE K C/\ba K C "name"):
  cN P w K mg base (k+1) C "cell_names" 1 (.aV (gJ j i c b g)):=
 du F lD hb cl hm fun cdv A outer s H E hr=>(aw (aP (bQ (N':=["part"]) (no:=1) (cap:=[]) rfl rfl .b0 rfl .bZ (bV .jb) (fun _ _ _ _ _ _=>(aE 0 jI rfl .t)) .aT .hP)))
theorem nW:.bK:=.c
abbrev gZ:Stmt:=inClass (top 47) 6
def kS (j i c b g:Addr):FS:=
  (bo (.Q (aR (cY [j] "inner_parts" (ae 0))) .cs))
theorem qt:.aa gZ:=by walk_at "sc"
theorem oX {C:Addr}(F:eN K "order" "Wiring.order" gZ f fd)(hb:.a8)(cl:dE K C)(hm:Meth K C "order" f)(a:∀C∈[j],dE K C/\ba K C "inner_parts")(q:∀C∈[i,c,b,g],dE K C/\ba K C "name"):
  cN P w K mg base (k+1) C "order" 1 (.aV (kS j i c b g)):=
 du F qt hb cl hm fun cdv A outer s H E hr=>(aw (aP (bQ (N':=["part"]) (no:=1) (cap:=[]) rfl rfl .b0 rfl .bZ (bV .jb) (fun _ _ _ _ _ _=>(aE 0 nW rfl .t)) .aT .hP)))
abbrev kG:Stmt:=top 48
noncomputable def ik (a:.Y):FS:=
  (aL (bN 1 ao)
  (aL (gU (sX .iB) (cu (.c 2 3)) (aL (cj 4 (.d a 3))
  (aL (cG (bR (ar Oi (ae 4) .it)) gi bK)
  (eY 1 (ae 4)))))
  (bo (ae 1))))
theorem fq : aG ["text","parts","place","row","part"] .hh (ax kG) := by walk_at "sc"
theorem vA (F : eN K "read_parts" "read_parts" kG f fd)(hb : Binds K fd .hh [])(hm : mg "read_parts" = some (.d f))(b : Def P w K mg base k "read_part" 1 a)(c : mg "enumerate" = none):
  Def P w K mg base (k+1) "read_parts" 1 (cy 5 1 (ik a)) :=
 bT F fq hb hm fun cdv A outer s H E hr => (aq (ei 1 fq.nd rfl .t aj)
  (aq (iJ PassesOwn.never rfl (KW rfl c (.az (gx PySem.F.slot_str_split PySem.F.type_str_split Aq zQ (.a 0) aY))) (.aB (.az (aE 2 fq.nd rfl .t) (aE 3 fq.nd rfl .t))) (aq (cb 4 fq.nd rfl .t (.h b 3))
  (aq (cL (bb PV (.a 4) ou (aX _)) (aw gP) bA)
  (aw (.aj 1 (.a 4))))))
  (.H (.a 1))))
abbrev mF : Stmt := top 49
noncomputable def iW (i c h : Addr)(a l m : List T->Option T)(g b d : List T->Option uN): FS :=
  (aL (lS (.m gW .cx) (xE (.c 1 2)))
  (aL (.x (.ai .dt (bU (ai a (.a (ae 2) (aH 1))))) (oQ i g (.a3 (.J 2 0))))
  (aL (.x (.ai (fC (.str "cell")) (bU (ai a (.a (ae 2) (aH 2))))) (oQ c b (.a (.J 2 0) (.J 2 1))))
  (aL (.x (.ai .df (.s (.d bJ 2) (aH 3))) (ai l (ag (.J 2 0) (.a (.J 2 1) (ar bI (ae 2) (aH 2))))))
  (aL (.x (.ai (fC (.str "sum")) (bR (gT uU uU (aH 2) (.d bJ 2) (ar aU (aH 4) (aH 1))))) (ai m (.a (.J 2 0) (zm (ae 2) (dA (aH 1)) eU))))
  (aL (.x (.ai .e1 (bU (ai a (.a (ae 2) (aH 1))))) (oQ h d (.a3 (.J 2 0))))
  (bo .it)))))))
theorem kK : aG ["row","word","words"] ["row"] (ax mF) := by walk_at "sc"
theorem yA (F : eN K "read_part" "read_part" mF f fd)(hb : Binds K fd ["row"] [])(hm : mg "read_part" = some (.d f))(j : Def P w K mg base k "are_names" 2 a)(n : Def P w K mg base k "read_gain" 3 l)(o : Def P w K mg base k "read_sum" 2 m)(DI_In : iu P w K mg base k "In" i 1 g)(DI_Cell : iu P w K mg base k "Cell" c 2 b)(DI_Out : iu P w K mg base k "Out" h 1 d)(t : mg "len" = none)(p : mg "MOST_TERMS" = some (.ae 4 q)):
  Def P w K mg base (k+1) "read_part" 1 (cy 3 1 (iW i c h a l m g b d)) :=
 bT F kK hb hm fun cdv A outer s H E hr => (aq (qy (gx PySem.F.slot_str_split PySem.F.type_str_split Aq zQ (.a 0) aY) (KS rfl (.az (aE 1 kK.nd rfl .t) (aE 2 kK.nd rfl .t))))
  (aq (.ac (.H (mW DI_In hr rfl (.az .h8) (ak aN))))
  (aq (.ac (aw (aP (mW DI_Cell hr rfl (.i .h8 .h8) .aB))))
  (aq (.M (iK (.H (.a 1) aY) (fZ (.H (.aN 2) au))) (aw (aP (aT n hr rfl (af .h8 (.i .h8 .h8)) (ak .aB)))))
  (aq (.M (iK (.H (.a 1) aY) (fZ (IS qQ qQ au (.aN 2) (aV bh (eM rfl p) au)))) (aw (aP (.u o (.i .h8 (pB (.a 2) (mY au) yS))))))
  (aq (.ac (.H (mW DI_Out hr rfl (.az .h8) (ak aN))))
  (.H ou)))))))
abbrev mE : Stmt := top 50
noncomputable def iV (b : Addr)(d a : List T->Option T)(c : List T->Option uN): FS :=
  (aL (cj 3 (.d d 1))
  (bo (zk (gS (bR (ar xC (ae 3) .it)) (bU (ai a (.a (eI (.v 0 2)) (aH 2))))) (oQ b c (ag (ae 0) (.v 3 2))) .it)))
theorem pA : aG ["name","number",.cQ,"by"] ["name","number",.cQ] (ax mE) := by walk_at "sc"
theorem yz (F : eN K "read_gain" "read_gain" mE f fd)(hb : Binds K fd ["name","number",.cQ] [])(hm : mg "read_gain" = some (.d f))(g : Def P w K mg base k "read_factor" 1 d)(j : Def P w K mg base k "are_names" 2 a)(DI_Gain : iu P w K mg base k "Gain" b 3 c):
  Def P w K mg base (k+1) "read_gain" 3 (cy 4 3 (iV b d a c)) :=
 bT F pA hb hm fun cdv A outer s H E hr => (aq (cb 3 pA.nd rfl .t (.h g 1))
  (.H (wL (SW.st (iK (bb HX (.a 3) ou (aX _)) (fZ (ck (.u j (.i (hV (.V 0 2)) au)))))) (mW DI_Gain hr rfl (af (.a 0) (.V 3 2)) (ak .aB)) ou)))
abbrev jx : Stmt := top 51
noncomputable def gG (a : Addr)(b : List T->Option T): FS :=
  (aL (GP (cj 1 (.d b 0))
  OT
  (Dk [(a, true)] (bo .it) Ls))
  (bo (zk (gS (bR (ar uU (.f sQ .dl) (aH 99))) (bR (ar uU .fX (aH 12)))) (ae 1) .it)))
theorem mH : aG ["text","by"] .hh (ax jx) := by walk_at "sc"
theorem uc (F : eN K "read_factor" "read_factor" jx f fd)(hb : Binds K fd .hh [])(hm : mg "read_factor" = some (.d f))(c : Def P w K mg base k "read_frac" 1 b)(d : Bq K a [(a, true)])(g : mg "NoFraction" = some (.d a))(q2 : mg "abs" = none)(h : mg "GREATEST_TOP" = some (.ae 99 j))(i : mg "GREATEST_BOTTOM" = some (.ae 12 l)):
  Def P w K mg base (k+1) "read_factor" 1 (cy 2 1 (gG a b)) :=
 bT F mH hb hm fun cdv A outer s H E hr => (aq (NH (fun _ _ z => z) rfl rfl
  (aw (cb 1 mH.nd rfl .t (.h c 0)))
  NI
  (IK rfl g d (fun _ => (.H ou)) Nx))
  (.H (wL (SW.st (iK (bb qQ (.bz (.az (.v (.a 1)))) (eM rfl h) (aX _)) (fZ (bb qQ (.v (.a 1)) (eM rfl i) (aX _))))) (.a 1) ou)))
theorem vg : (["word"] : List Str).Nodup := by decide +kernel
theorem nJ : (["sign",.cQ] : List Str).Nodup := by decide +kernel
abbrev oo : Stmt := top 52
noncomputable def jS (g : Addr)(a : List T->Option T)(b : List T->Option uN): FS :=
  (aL (cj 2 (.f gh (.Q (.am 1) (dz (.a (zk (bU (.m Jl .cU)) .gv (aH 1)) (.m tj .cU))))))
  (bo (zk (bU (ai a (.a (ar aU (eI (bH 0)) (bf 2 [] (.am 2) (cu (aD (ah 0) (aD (ah 1) bS))) aO (ae 1))) (ar aU (.d bJ 2) (aH 1))))) (oQ g b (.v 0 2)) .it)))
theorem qS : aG ["name","words","terms"] ["name","words"] (ax oo) := by walk_at "sc"
theorem AE (F : eN K "read_sum" "read_sum" oo f fd)(hb : Binds K fd ["name","words"] [])(hm : mg "read_sum" = some (.d f))(j : Def P w K mg base k "are_names" 2 a)(DI_Sum : iu P w K mg base k "Sum" g 2 b)(l : mg "tuple" = none)(t : mg "len" = none):
  Def P w K mg base (k+1) "read_sum" 2 (cy 3 2 (jS g a b)) :=
 bT F qS hb hm fun cdv A outer s H E hr => (aq (cb 2 qS.nd rfl .t (bP fT rfl l rfl (af (bQ (N' := ["word"]) (no := 1) (cap := []) rfl rfl .b0 rfl .bZ (.bd 1) (.Y (aE 0 vg rfl .t)) .d3 (.Y (er (.i (wL (ck (gx PySem.F.slot_str_startswith PySem.F.type_str_startswith Pu O4 (.a 0) aY)) (II CH au) au) (gx zbu zbv HF Hf (.a 0) aY))))) aj)))
  (.H (wL (ck (aT j hr rfl (.i (aV bh (hV (.i 0)) (bQ (N' := ["sign",.cQ]) (no := 2) (cap := []) rfl rfl .b0 rfl .bZ (.bd 2) (.Y (.aB (.u nJ))) .d3 (.Y (.a 1)))) (aV bh (.aN 2) au)) .aB)) (mW DI_Sum hr rfl (.V 0 2) .aB) ou)))
theorem tN : (["word"] : List Str).Nodup := by decide +kernel
abbrev mC : Stmt := top 53
noncomputable def iT (b : List T->Option T): FS :=
  (bo (iz (ar eO .d1 (ae 1)) (.f mZ (bf 1 [] (.am 0) (ah 0) aO (.d b 0)))))
theorem yK : aG ["words","many"] ["words","many"] (ax mC) := by walk_at "sc"
theorem yx (F : eN K "are_names" "are_names" mC f fd)(hb : Binds K fd ["words","many"] [])(hm : mg "are_names" = some (.d f))(c : Def P w K mg base k "is_name" 1 b)(t : mg "len" = none)(a : mg "all" = none):
  Def P w K mg base (k+1) "are_names" 2 (cy 2 2 (iT b)) :=
 bT F yK hb hm fun cdv A outer s H E hr => (.H (mI (gy .aH (.aN 0) (.a 1) (aX _)) (oy (.bv (af (bQ (N' := ["word"]) (no := 1) (cap := []) rfl rfl .b0 rfl .bZ (.bd 0) (.Y (aE 0 tN rfl .t)) .d3 (.Y (.h c 0))) aj)))))
theorem ym : (["sign"] : List Str).Nodup := by decide +kernel
abbrev qp : Stmt := top 54
def mR : FS :=
  (bo (iz (.an 8) (.f mZ (.Q (sZ (ae 0)) (.m rf (fC .x))))))
theorem Cq : aG ["word"] ["word"] (ax qp) := by walk_at "sc"
theorem Cf (F : eN K "is_name" "is_name" qp f fd)(hb : Binds K fd ["word"] [])(hm : mg "is_name" = some (.d f))(t : mg "len" = none)(a : mg "all" = none)(b : mg "LONGEST_NAME" = some (.ae 8 d))(c : mg "LETTERS" = some (.str "abcdefghijklmnopqrstuvwxyz" g)):
  Def P w K mg base (k+1) "is_name" 1 (.aV (mR)) :=
 bT F Cq hb hm fun cdv A outer s H E hr => (.H (mI (A3 qQ qQ au (.aN 0) (eM rfl b)) (oy (.bv (af (bQ (N' := ["sign"]) (no := 1) (cap := []) rfl rfl .b0 rfl .bZ (IM (.a 0)) (.Y (aE 0 ym rfl .t)) .d3 (.Y (gy HW (.a 0) (IH rfl c) rfl))) aj)))))
abbrev iH : Stmt := top 55
noncomputable def lM (r i c b g h j : Addr)(d l m o p : List T->Option T): FS :=
  (sW 1 (nM (CM 1 (.am 0) (ah 2) (NZ 1 (.a2 (cK [.eA, .fD, .gV, .fE, .eC, (h, true), .dM] (ae 2))) (zc (Et 1 (cY [i, c, b, g] "name" (ae 2)) mP iN) (CN 1 (cY [i, c, b, g] "name" (ae 2)) (fC .bE))) iN))
  (zEnd 1 (gU (.am 0) (ah 2) (gU (aR (cR [(r, d), (i, d), (c, l), (b, m), (g, o), (h, p)] "wants" (ae 2) ao)) (ah 3) (cG (bR (ar (jX true) (ae 3) (ae 1))) gi bK))))))
theorem dY : aG ["parts","named","part","name"] .ju (ax iH) := by walk_at "sc"
theorem rC (F : eN K "refuse_names" "refuse_names" iH f fd)(hb : Binds K fd .ju [])(hm : mg "refuse_names" = some (.d f))(DM_wants : ∀a∈[(r, d), (i, d), (c, l), (b, m), (g, o), (h, p)], cN P w K mg base k a.1 "wants" 1 a.2)(n : ∀a∈[.eA, .fD, .gV, .fE, .eC, (h, true), .dM], dQ K h a.1 a.2)(N : mg "Out" = some (.d h))(q:∀C∈[i,c,b,g],dE K C/\ba K C "name")(q6:.bQ):
  Def P w K mg base (k+1) "refuse_names" 1 (cy 4 1 (lM r i c b g h j d l m o p)):=
 bT F dY hb hm fun cdv A outer s H E hr=>(Ba dY.nd rfl .t (pG (Cz PassesOwn.never rfl (.bd 0) (aE 2 dY.nd rfl .t) (pI (LO (gD (ck (dN n rfl q6 rfl N (.a 2)))) (uz (K7 hr.units (pv 1) (cz q (.a 2)) qA pH) (pI (IW hr.units (pv 1) (cz q (.a 2)) jJ))) pH)))
  (Em (aw (iJ PassesOwn.never rfl (.bd 0) (aE 2 dY.nd rfl .t) (aw (iJ PassesOwn.never rfl (bV (.ad DM_wants 2)) (aE 3 dY.nd rfl .t) (aw (cL (bb (wB hr.units) (.a 3) (.a 1) rfl) (aw gP) bA)))))))))
theorem nX:.bK:=.c
theorem nY:.bK:=.c
theorem nZ:.bK:=.c
abbrev hJ:Stmt:=top 56
noncomputable def fz (r i c b g h j:Addr):FS:=
  (aL (cj 1 (.f bJ (.bq (cK [.il,(i,true),.iu,(b,false),(g,false),.iq,.io] (ae 0)))))
  (aL (cj 2 (.f bJ (.bq (.y (c,true) .iq))))
  (aL (cj 3 (.f bJ (.bq (.y .iu (h,true)))))
  (aL (cG (uO (bR (ar BK .d1 (aH 24))) (uO (bR (.a BK 2 4)) (uO (bR (.a BK 1 2)) (bR (.a BK 3 2))))) gi bK)
  (cG (uO (bR (.a eO 1 0)) (bR (.a eO 3 0))) gi bK)))))
theorem eW:aG ["parts","ins","cells","outs"] .ju (ax hJ):=by walk_at "sc"
theorem qg (F:eN K "refuse_counts" "refuse_counts" hJ f fd)(hb:Binds K fd .ju [])(hm:mg "refuse_counts" = some (.d f))(m:∀a∈[.il,(i,true),.iu,(b,false),(g,false),.iq,.io],dQ K i a.1 a.2)(d:∀a∈[.il,(i,false),(c,true),(b,false),(g,false),.iq,.io],dQ K c a.1 a.2)(n:∀a∈[.il,(i,false),.iu,(b,false),(g,false),(h,true),.io],dQ K h a.1 a.2)(Q:mg "Cell" = some (.d c))(p:mg "In" = some (.d i))(N:mg "Out" = some (.d h))(q6:.bQ)(t:.cb)(o:mg "MOST_ROWS" = some (.ae 24 u))(q:mg "MOST_CELLS" = some (.ae 4 v))(l:mg "MOST_LINES" = some (.ae 2 x)):
  Def P w K mg base (k+1) "refuse_counts" 1 (cy 4 1 (fz r i c b g h j)):=
 bT F eW hb hm fun cdv A outer s H E hr=>(aq (cb 1 eW.nd rfl .t (.h (.e (.a 0) (fun _ _ _ _ _ _=>(aE 0 nX rfl .t)) (ck (.n m p)))))
  (aq (cb 2 eW.nd rfl .t (.h (.e (.a 0) (fun _ _ _ _ _ _=>(aE 0 nY rfl .t)) (ck (.n d Q)))))
  (aq (cb 3 eW.nd rfl .t (.h (.e (.a 0) (fun _ _ _ _ _ _=>(aE 0 nZ rfl .t)) (ck (.n n N)))))
  (aq (.M (iL (.U (.aN 0) o) (iL (.U (.a 2) q) (iL (.U (.a 1) l) (iM (.U (.a 3) l))))) (aw gP))
  (aw (.M (iL (.H (.a 1) au) (iM (.H (.a 3) au))) (aw gP)))))))
theorem vd:.bK:=.c
theorem nI:(["name","part","inner"]:List Str).Nodup:=.c
theorem ve:([.g0,"inner"]:List Str).Nodup:=.c
theorem vf:(["name","inner"]:List Str).Nodup:=.c
abbrev oj:Stmt:=top 57
noncomputable def jR (n:Nat)(r i c b g h j:Addr)(u:.gP)(d l m o p:.Y):FS:=
  (aL (cj 1 (jk 1 [] (.am 0) (ah 0) (bU (.t (nQ b g [.il,(i,false),.iu,(b,true),(g,true),.iq,.io]) (dz (.ah b g)))) .cs (ae 0)))
  (aL (cj 2 (jk 2 [1] (iY (ae 1)) .cr aO (ae 0) (.aZ (cR [(r,d),(i,d),(c,l),(b,m),(g,o),(h,p)] "wants" (ae 1) ao))))
  (aL (bN 3 ao)
  (aL (cj 4 (pY 3 (lT u (.v 2 3))))
  (aL (cP (bU (ae 4)) (aL (eY 3 (.d jC 4))
  (cj 4 (pY 3 (lT u (.v 2 3))))) n)
  (aL (cG (bR .g4) gi bK)
  (bo (.an 3 (.c qL 1 0)))))))))
theorem fO:aG ["parts","inner","wanted","order","free"] .ju (ax oj):=by walk_at "sc"
theorem AB (n:Nat)(F:eN K "in_order" "in_order" oj f fd)(hb:Binds K fd .ju [])(hm:mg "in_order" = some (.d f))(x:zp P w K mg base k "free_names" 2 u)(DM_wants:∀a∈[(r,d),(i,d),(c,l),(b,m),(g,o),(h,p)],cN P w K mg base k a.1 "wants" 1 a.2)(y:∀a∈[.il,(i,false),.iu,(b,true),(g,true),.iq,.io],Bm K b g a.1 a.2)(R:mg "Gain" = some (.d b))(S:mg "Sum" = some (.d g))(q:∀C∈[i,c,b,g],dE K C/\ba K C "name")(q6:.bQ)(v:mg "min" = none)(t:.cb):
  Def P w K mg base (k+1) "in_order" 1 (cy 5 1 (jR n r i c b g h j u d l m o p)):=
 bT F fO hb hm fun cdv A outer s H E hr=>(aq (cb 1 fO.nd rfl .ix (IG hr.units (N':=["part"]) (no:=1) (cap:=[]) rfl rfl .b0 rfl .bZ (.bd 0) (fun _ _ _ _ _ _=>(aE 0 vd rfl .t)) (.O (ck (.ak (Gx y) (er (af (ur rfl R) (.az (ur rfl S))))))) .hP .aU))
  (aq (A9 2 fO.nd rfl rfl hr.units (N':=["name","part","inner"]) (no:=2) (cap:=[1]) rfl rfl .b0 rfl .bZ (A7 (.a 1)) (.Q (.u nI)) .aT .aU (fun _ _ _ _ _ _=>(bQ (N':=[.g0,"inner"]) (no:=1) (cap:=[2]) rfl rfl .b0 rfl .bZ (bV (.ad DM_wants 1)) (fun _ _ _ _ _ _=>(aE 0 ve rfl .t)) (.O (bb (HV hr.units) (.a 0) (.a 1) rfl)) .aU)))
  (aq (ei 3 fO.nd rfl .t aj)
  (aq (cb 4 fO.nd rfl .t (A4 3 (A5 x hr rfl (.V 2 3) .aB)))
  (aq (mJ n PassesOwn.never (ck (.a 4)) (aq (.aj 3 (aI (C4 rfl) rfl v rfl (.i 4)))
  (aw (cb 4 fO.nd rfl .t (A4 3 (A5 x hr rfl (.V 2 3) .aB))))))
  (aq (cL (bb HY (D9 3 (.aN 3)) (aI C3 rfl t zaq (.i 1)) (aX _)) (aw gP) bA)
  (.H (bQ (N':=["name","inner"]) (no:=1) (cap:=[1]) rfl rfl .b0 rfl .bZ (.bd 3) (fun _ _ _ _ _ _=>(aE 0 vf rfl .t)) .aT (fun _ _ _ _ _ _=>(D8 hr.units (.a 1) (.a 0) .L))))))))))
theorem k9:(["name","others","order"]:List Str).Nodup:=.c
theorem rj:([.g0,"order"]:List Str).Nodup:=.c
abbrev kE:Stmt:=top 58
def ij:Lg:=
  (Dh (nR 2 [1] (iY (ae 0)) .cr (gS (bR (.c p9 0 2)) (bU .bh)) (uT (ae 0))))
theorem vG:aG ["wanted","order"] ["wanted","order"] (ax kE):=by walk_at "sc"
theorem tY (F:eN K "free_names" "free_names" kE f fd)(hb:Binds K fd ["wanted","order"] [])(hm:mg "free_names" = some (.d f))(a:mg "all" = none):
  zp P w K mg base (k+1) "free_names" 2 (Jx 2 2 (ij)):=
 JB F vG hb hm fun cdv A outer s H E hr=>(K2 (A6 (N':=["name","others","order"]) (no:=2) (cap:=[1]) rfl rfl .b0 rfl .bZ (A7 (.a 0)) (.Q (.u k9)) (fun _ _ _ _ _ _=>(eD (SW.st (iK (bb (HZ hr.units) (.a 0) (.a 2) rfl) (fZ (ck (.bv (.az (bQ (N':=[.g0,"order"]) (no:=1) (cap:=[2]) rfl rfl .b0 rfl .bZ (.bd 1) (fun _ _ _ _ _ _=>(aE 0 rj rfl .t)) .aT (fun _ _ _ _ _ _=>(gy (PU hr.units) (.a 0) (.a 1) rfl))))))))))) (fun _ _ _ _ _ _=>(SE.seo (.a 0)))))
abbrev mx:Stmt:=top 63
def iQ:FS:=
  (aL (.x (bR (ar G6 (ae 1) .d1)) (.c bI 0 1))
  (bo (aH 0)))
theorem yI:.ar .eX mx:=by walk_at "sc"
theorem yr (F:eN K "_law_cell" "_law_cell" mx f fd)(hb:Binds K fd .eX [])(hm:mg "_law_cell" = some (.d f))(t:.cb):
  Def P w K mg base (k+1) "_law_cell" 2 (cy 2 2 (iQ)):=
 bT F yI hb hm fun cdv A outer s H E hr=>(aq (.ax (bb HY (.a 1) (.aN 0) (aX _)) (.e 0 (.a 1)))
  (.H au))
abbrev jv:Stmt:=top 64
noncomputable def gF:FS:=
  (aL (bN 2 ao)
  (aL (cj 3 (ae 0))
  (aL (gU (.am 1) (ah 4) (aL (eY 2 (.c dB 3 4))
  (cj 3 (.c iA 3 4))))
  (bo (ae 2)))))
theorem eL:aG [.aD,"_law_bases","_law_found","_law_left","_law_base"] .eG (ax jv):=by walk_at "sc"
theorem ua (F:eN K "_law_digits" "_law_digits" jv f fd)(hb:Binds K fd .eG [])(hm:mg "_law_digits" = some (.d f)):
  Def P w K mg base (k+1) "_law_digits" 2 (cy 5 2 (gF)):=
 bT F eL hb hm fun cdv A outer s H E hr=>(aq (ei 2 eL.nd rfl .t aj)
  (aq (cb 3 eL.nd rfl .t (.a 0))
  (aq (iJ PassesOwn.never rfl (.bd 1) (aE 4 eL.nd rfl .t) (aq (.aj 2 (aV fK (.a 3) (.a 4)))
  (aw (cb 3 eL.nd rfl .t (aV kj (.a 3) (.a 4))))))
  (.H (.a 2)))))
abbrev kz:Stmt:=top 65
noncomputable def ib:FS:=
  (aL (bN 2 ao)
  (aL (cj 3 (ar aU (.a dB 0 2147483629) (aH 17)))
  (aL (gU (dm (bH 1)) (ah 4) (aL (cj 3 (ar dB .dg (aH 2147483647)))
  (eY 2 (ar iA (ar dB (ar gL (ae 3) (ae 3)) (aH 2147483587)) (aH 3)))))
  (bo (ae 2)))))
theorem fj:aG [.aD,"_law_many","_law_found","_law_number","_law_k"] .f7 (ax kz):=by walk_at "sc"
theorem vq (F:eN K "_law_mixed" "_law_mixed" kz f fd)(hb:Binds K fd .f7 [])(hm:mg "_law_mixed" = some (.d f))(c:mg "range" = none):
  Def P w K mg base (k+1) "_law_mixed" 2 (cy 5 2 (ib)):=
 bT F fj hb hm fun cdv A outer s H E hr=>(aq (ei 2 fj.nd rfl .t aj)
  (aq (cb 3 fj.nd rfl .t (aV bh (.I fK 0) au))
  (aq (iJ PassesOwn.never rfl (kN rfl c (.i 1)) (aE 4 fj.nd rfl .t) (aq (cb 3 fj.nd rfl .t (aV fK (aV bh (aV bh (.I pe 3) (aV pe au (.a 4))) au) au))
  (aw (.aj 2 (aV kj (aV fK (aV pe (.a 3) (.a 3)) au) au)))))
  (.H (.a 2)))))
theorem kY:(["_law_number","_law_base"]:List Str).Nodup:=.c
abbrev kr:Stmt:=top 66
noncomputable def ia (a b:.Y):FS:=
  (aL (.x (.s (.a dB 0 2) (aH 1)) (ai a (ag (.a iA 0 2) (bH 1))))
  (bo (bf 2 [] (lU (ag (ai b (.a (.a iA 0 2) (.d bJ 1))) (bH 1))) .cr aO (.c dB 0 1))))
theorem vD:.ar .eG kr:=by walk_at "sc"
theorem vn (F:eN K "_law_drawn" "_law_drawn" kr f fd)(hb:Binds K fd .eG [])(hm:mg "_law_drawn" = some (.d f))(c:Def P w K mg base k "_law_digits" 2 a)(d:Def P w K mg base k "_law_mixed" 2 b)(o:mg "zip" = none)(t:.cb):
  Def P w K mg base (k+1) "_law_drawn" 2 (cy 2 2 (ia a b)):=
 bT F vD hb hm fun cdv A outer s H E hr=>(aq (.ax (bb .aH (.I fK 0) au (aX _)) (.u c (af (.I kj 0) (.i 1))))
  (.H (bQ (N':=["_law_number","_law_base"]) (no:=2) (cap:=[]) rfl rfl .b0 rfl .bZ (Cu rfl o (af (.u d (.i (.I kj 0) (.aN 1))) (.i 1))) (.Q (.u kY)) .aT (fun _ _ _ _ _ _=>(aV fK (.a 0) (.a 1))))))
theorem rh:(["_law_j","_law_letters","_law_tail","_law_k","_law_at"]:List Str).Nodup:=.c
abbrev kA:Stmt:=top 67
noncomputable def ic (a:.Y):FS:=
  (aL (cj 2 (fC .x))
  (aL (cj 3 (ar aU (aH 1) (.a dB 0 8)))
  (aL (cj 4 (ar dB (.a iA 0 8) (ae 3)))
  (aL (cj 5 (ai a .d7))
  (aL (bN 6 ao)
  (aL (gU (dm (bH 1)) (ah 7) (aL (dU 8 1 [2,5,7,4] (dm (bH 3)) (ah 0) aO .aV)
  (eY 6 (ar cU (fC .d0) (ae 8)))))
  (bo (ae 6))))))))
theorem cV:aG [.aD,"_law_many","_law_letters","_law_size","_law_at","_law_tail","_law_names_here","_law_k","_law_signs"] .f7 (ax kA):=by walk_at "sc"
theorem vt (F:eN K "_law_names" "_law_names" kA f fd)(hb:Binds K fd .f7 [])(hm:mg "_law_names" = some (.d f))(b:.gC)(c:mg "range" = none)(q5:mg "int" = none):
  Def P w K mg base (k+1) "_law_names" 2 (cy 9 2 (ic a)):=
 bT F cV hb hm fun cdv A outer s H E hr=>(aq (cb 2 cV.nd rfl .ix aY)
  (aq (cb 3 cV.nd rfl .t (aV bh au (.I fK 0)))
  (aq (cb 4 cV.nd rfl .ix (aV fK (.I kj 0) (.a 3)))
  (aq (cb 5 cV.nd rfl .ix (.u b (.i (.I kj 0) (aV Ie (hV (.az au)) (.a 3)))))
  (aq (ei 6 cV.nd rfl .t aj)
  (aq (iJ PassesOwn.never rfl (kN rfl c (.i 1)) (aE 7 cV.nd rfl .ix) (aq (oz cV.nd rfl rfl (N':=["_law_j","_law_letters","_law_tail","_law_k","_law_at"]) (no:=1) (cap:=[2,5,7,4]) rfl rfl .b0 rfl .bZ (kN rfl c (.i 3)) (fun _ _ _ _ _ _=>(aE 0 rh rfl .t)) .aT (fun _ _ _ _ _ _=>(br bw (.a 1) (aV fK (aV bh (.e 2 (.a 0)) (aV pe (.a 3) (bP rK rfl q5 rfl (.az (gy .aH (.a 0) (.a 4) (aX _)))))) au) .L)))
  (aw (.aj 6 (.aM (.a 8))))))
  (.H (.a 6))))))))
abbrev my:Stmt:=top 68
noncomputable def lL (n:Nat):FS:=
  (aL (uS 2 3 (ag (.d sQ 0) (bH 1)))
  (aL (cP (bR (.a jM 3 0)) (uS 2 3 (.a (ae 3) (ar dB (ae 2) (ae 3)))) n)
  (bo (dz (.a (.m iA (ae 2)) (ar iA (ae 1) (ae 2)))))))
theorem kH:aG ["_law_top","_law_bottom","_law_one","_law_other"] ["_law_top","_law_bottom"] (ax my):=by walk_at "sc"
theorem yt (n:Nat)(F:eN K "_law_frac" "_law_frac" my f fd)(hb:Binds K fd ["_law_top","_law_bottom"] [])(hm:mg "_law_frac" = some (.d f))(q2:mg "abs" = none):
  Def P w K mg base (k+1) "_law_frac" 2 (cy 4 2 (lL n)):=
 bT F kH hb hm fun cdv A outer s H E hr=>(aq (ux rfl kH.nd rfl rfl .e rfl rfl (af (.bz (.i 0)) (.i 1)) rfl)
  (aq (mJ n PassesOwn.never (.l (.a 3) au) (aw (ux rfl kH.nd rfl rfl .e rfl rfl (.i (.a 3) (aV fK (.a 2) (.a 3))) rfl)))
  (.H (er (.i (aV kj (.a 0) (.a 2)) (aV kj (.a 1) (.a 2)))))))
abbrev ku:Stmt:=top 69
noncomputable def eR (a:.Y):FS:=
  (aL (.x (.s .dl (aH 0)) (dz (ag .df (ag (ae 0) (.a (ai a (ag (ar EX .fX (aH 99)) (.a3 (ar aU (aH 1) (.J 1 2))))) (.aL (.J 1 3)))))))
  (aL (bN 3 ao)
  (aL (gU (aR .eO) (ah 4) (eY 3 (dz (.a (ar bI (eI (.a (aH 1) .gv)) (.a dB 4 2)) (.aL (.a iA 4 2))))))
  (bo (dz (ag .cd (.a (ae 0) (.d gh 3))))))))
theorem jy:aG ["_law_name","_law_digits_here","_law_some","_law_terms","_law_digit"] .fc (ax ku):=by walk_at "sc"
theorem vo (F:eN K "_law_inner" "_law_inner" ku f fd)(hb:Binds K fd .fc [])(hm:mg "_law_inner" = some (.d f))(b:Def P w K mg base k "_law_frac" 2 a)(t:.cb)(l:mg "tuple" = none):
  Def P w K mg base (k+1) "_law_inner" 3 (cy 5 3 (eR a)):=
 bT F jy hb hm fun cdv A outer s H E hr=>(aq (cL (bb .aH .iA au (aX _)) (aw (aP (er (af aY (af (.a 0) (.i (.u b (af (aV Ci .iA au) (.az (aV bh au .iA)))) (br bw (.a 2) (aV fK .iA (.aN 2)) .L))))))) bA)
  (aq (ei 3 jy.nd rfl .t aj)
  (aq (iJ PassesOwn.never rfl (bV (pB (.a 1) (mY au) (mY (aV bh au .iA)))) (aE 4 jy.nd rfl .t) (aw (.aj 3 (er (.i (br bw (hV (af au (.az (II CH au)))) (.I fK 4) .L) (br bw (.a 2) (aV fK (.I kj 4) (.aN 2)) .L))))))
  (aw (aP (er (af aY (.i (.a 0) (.f fT l 3)))))))))
theorem ri:(["_law_name"]:List Str).Nodup:=.c
abbrev kB:Stmt:=top 70
noncomputable def ie (l a d g:.Y):FS:=
  (aL (cj 1 (.t l (aH 0)))
  (aL (lS (ai a .bW) .gr)
  (aL (cj 6 (ai d (.a0 l)))
  (aL (cj 7 (zm (ae 6) eU (dA (.x 3))))
  (aL (dU 8 1 [] (aR .eY) (ah 0) aO .iZ)
  (aL (gU (dm (bH 5)) (ah 9) (aL (cj 10 (ai a (.j l)))
  (aL (eY 8 (ai g (.aq (.v 10 7))))
  (cj 7 (ar aU (ae 7) (eI (.aq ao)))))))
  (aL (cj 11 (ai a (.ab l)))
  (aL (gU (dm (bH 3)) (ah 9) .bM)
  (aL (gU (dm (.a3 (.a aU 4 1))) (ah 9) .bU)
  (bo (ae 8)))))))))))
theorem bz:aG ["_law_script",.aD,"_law_ins","_law_cells","_law_outs","_law_inner_here","_law_names_here","_law_some",.gl,"_law_k","_law_digits_here","_law_ends"] .fT (ax kB):=by walk_at "sc"
theorem vw (F:eN K "_law_parts" "_law_parts" kB f fd)(hb:Binds K fd .fT [])(hm:mg "_law_parts" = some (.d f))(n:Def P w K mg base k "_law_cell" 2 l)(b:.gC)(h:Def P w K mg base k "_law_names" 2 d)(i:Def P w K mg base k "_law_inner" 3 g)(c:mg "range" = none)(t:.cb):
  Def P w K mg base (k+1) "_law_parts" 1 (cy 12 1 (ie l a d g)):=
 bT F bz hb hm fun cdv A outer s H E hr=>(aq (cb 1 bz.nd rfl .t (.u n (.i (.a 0) au)))
  (aq (qy (.u b (.i (.a 1) (hV (af au (af au (af au (.az au))))))) (Nw rfl (bc (.aT 2) (bc (.aT 3) (.az (.aT 4) (.aT 5)))) (bq (bq (bq (bq eZ))))))
  (aq (cb 6 bz.nd rfl .t (.u h (.i (aT n hr rfl (af (.a 0) (.az au)) .aB) (.S (aV bh (.I bh 2) (.a 3)) 5))))
  (aq (cb 7 bz.nd rfl .t (pB (.a 6) yS (mY (.S (.I bh 2) 3))))
  (aq (oz bz.nd rfl rfl (N':=["_law_name"]) (no:=1) (cap:=[]) rfl rfl .b0 rfl .bZ (bV (pB (.a 6) yS (mY (.I bh 2)))) (fun _ _ _ _ _ _=>(aE 0 ri rfl .t)) .aT (fun _ _ _ _ _ _=>(er (af aY (.i 0)))))
  (aq (iJ PassesOwn.never rfl (kN rfl c (.i 5)) (.aT 9) (aq (cb 10 bz.nd rfl .t (.u b (.i (aV bh (aT n hr rfl (af (.a 0) (.az (.S au 9))) .aB) (aV pe au (.a 9))) (hV (af au (af au (af au (af au (af au (af au (.az au)))))))))))
  (aq (.aj 8 (aT i hr rfl (af (.e 6 (.S (aV bh (.I bh 2) (.a 3)) 9)) (.V 10 7)) (ak .aB)))
  (aw (cb 7 bz.nd rfl .t (aV bh (.a 7) (hV (.az (.e 6 (.S (aV bh (.I bh 2) (.a 3)) 9))))))))))
  (aq (cb 11 bz.nd rfl .t (.u b (.i (aT n hr rfl (af (.a 0) (.az au)) .aB) (aV Ie (hV (.az (.aN 7))) (aV bh (.S (.a 3) 4) au)))))
  (aq (iJ PassesOwn.never rfl (kN rfl c (.i 3)) (.aT 9) (aw (.aj 8 (er (af aY (.i (.e 6 (.S (.I bh 2) 9)) (.e 7 (br bw (.a 11) (.a 9) .L))))))))
  (aq (iJ PassesOwn.never rfl (kN rfl c (.az (.I bh 4))) (.aT 9) (aw (.aj 8 (er (.i aY (.e 7 (br bw (.a 11) (.S (.a 3) 9) .L)))))))
  (.H (.a 8)))))))))))
theorem tL:(["_law_k"]:List Str).Nodup:=.c
abbrev mz:Stmt:=top 71
noncomputable def iR (a:.Y):FS:=
  (aL (bN 2 ao)
  (aL (gU (lU (.a (ae 0) (ai a (ag (ae 1) (.a3 (.Q (dm (ag .d1 ao)) (.a aU 0 1))))))) (cu (.c 3 4)) (ES 2 (ae 4) (ae 3)))
  (bo (ae 2))))
theorem iq:aG [.gl,.aD,.gN,.g1,"_law_place"] [.gl,.aD] (ax mz):=by walk_at "sc"
theorem yu (F:eN K "_law_laid" "_law_laid" mz f fd)(hb:Binds K fd [.gl,.aD] [])(hm:mg "_law_laid" = some (.d f))(b:.gC)(o:mg "zip" = none)(c:mg "range" = none)(t:.cb):
  Def P w K mg base (k+1) "_law_laid" 2 (cy 5 2 (iR a)):=
 bT F iq hb hm fun cdv A outer s H E hr=>(aq (ei 2 iq.nd rfl .t aj)
  (aq (iJ PassesOwn.never rfl (Cu rfl o (.i (.a 0) (aT b hr rfl (af (.a 1) (.az (bQ (N':=["_law_k"]) (no:=1) (cap:=[]) rfl rfl .b0 rfl .bZ (kN rfl c (af (.aN 0) aj)) (fun _ _ _ _ _ _=>(aE 0 tL rfl .t)) .aT (fun _ _ _ _ _ _=>(aV bh (.a 0) au))))) .aB))) (.aB (.az (aE 3 iq.nd rfl .t) (aE 4 iq.nd rfl .t))) (aw (FJ 2 (pv 2) (.a 4) (.a 3))))
  (.H (.a 2))))
abbrev gq:Stmt:=top 72
def jA:FS:=
  (aL (.bh (.f lq .af))
  (bo (.ac (.f lq .af) (.f lq (.J 0 1)))))
theorem pz:aG ["_law_one"] ["_law_one"] (ax gq):=by walk_at "sc"
theorem oZ (F:eN K "_law_frac_text" "_law_frac_text" gq f fd)(hb:Binds K fd ["_law_one"] [])(hm:mg "_law_frac_text" = some (.d f))(a:mg "str" = none):
  Def P w K mg base (k+1) "_law_frac_text" 1 (.aV (jA)):=
 bT F pz hb hm fun cdv A outer s H E hr=>(aq (.ax (bb .aH .eR au (aX _)) (bP sM rfl a rfl (.az .eR)))
  (.H (aV bh (aV bh (bP sM rfl a rfl (.az .eR)) aY) (bP sM rfl a rfl (.az .eR)))))
theorem nG:(.gu:List Str).Nodup:=.c
abbrev oh:Stmt:=top 73
noncomputable def jQ (a:.Y):FS:=
  (aL (.x (.s .af .df) (ar aU (ar aU (ar aU (ar aU (ar aU (fC (.str "gain ")) (.J 0 1)) .cx) (.f a (.J 0 2))) .cx) (.J 0 3)))
  (aL (.x (.s .af (fC (.str "sum"))) (ar aU (ar aU (fC (.str "sum ")) (.J 0 1)) (ar cU (fC .d0) (.aa (.J 0 2) .cm))))
  (bo (ar cU .cx (ae 0)))))
theorem A0:.ar .cn oh:=by walk_at "sc"
theorem AA (F:eN K "_law_row" "_law_row" oh f fd)(hb:Binds K fd .cn [])(hm:mg "_law_row" = some (.d f))(b:Def P w K mg base k "_law_frac_text" 1 a)(q5:mg "int" = none):
  Def P w K mg base (k+1) "_law_row" 1 (.aV (jQ a)):=
 bT F A0 hb hm fun cdv A outer s H E hr=>(aq (.ax (.H .eR aY) (aV bh (aV bh (aV bh (aV bh (aV bh aY .eR) aY) (.ab b .eR)) aY) .eR))
  (aq (.ax (.H .eR aY) (aV bh (aV bh aY .eR) (.aM (bQ (N':=.gu) (no:=2) (cap:=[]) rfl rfl .b0 rfl .bZ (bV .eR) (.Q (.u nG)) .aT (fun _ _ _ _ _ _=>(aV bh (br bw (hV (af aY (.az aY))) (bP rK rfl q5 rfl (.az (gy ud (.a 0) au (aX _)))) .L) (.a 1)))))))
  (.H (.aM (.a 0)))))
theorem tM:.jf:=.c
abbrev mB:Stmt:=top 74
def iS (I:.Y):FS:=
  (bo (ar cU (fC (.str "\n")) (.Q (.am 0) (.d I 0))))
theorem yJ : aG ["_law_laid_here"] ["_law_laid_here"] (ax mB) := by walk_at "sc"
theorem yw (F : eN K "_law_text" "_law_text" mB f fd)(hb : Binds K fd ["_law_laid_here"] [])(hm : mg "_law_text" = some (.d f))(T : Def P w K mg base k "_law_row" 1 I):
  Def P w K mg base (k+1) "_law_text" 1 (.aV (iS I)) :=
 bT F yJ hb hm fun cdv A outer s H E hr => (.H (.aM (bQ (N' := .cn) (no := 1) (cap := []) rfl rfl .b0 rfl .bZ (.bd 0) (.Y (aE 0 tM rfl .t)) .d3 (.Y (.h T 0)))))
theorem kZ : (.gu : List Str).Nodup := by decide +kernel
abbrev kC : Stmt := top 75
noncomputable def ig : FS :=
  (aL (.x (.s .af .dt) (dz ao))
  (aL (.x (.s .af (fC (.str "sum"))) (.f gh (.aa (.J 0 2) (ae 1))))
  (bo (dz (.a3 (.m bI (ar EX .d1 (aH 1))))))))
theorem vF : aG .cn .cn (ax kC) := by walk_at "sc"
theorem vy (F : eN K "_law_wants" "_law_wants" kC f fd)(hb : Binds K fd .cn [])(hm : mg "_law_wants" = some (.d f))(l : mg "tuple" = none)(t : mg "len" = none):
  Def P w K mg base (k+1) "_law_wants" 1 (.aV (ig)) :=
 bT F vF hb hm fun cdv A outer s H E hr => (aq (.ax (.H (.v (.a 0)) aY) (er aj))
  (aq (.ax (.H (.v (.a 0)) aY) (bP fT rfl l rfl (af (bQ (N' := .gu) (no := 2) (cap := []) rfl rfl .b0 rfl .bZ (bV (.v (.a 0))) (.Y (.aB (.u kZ))) .d3 (.Y (.a 1))) aj)))
  (.H (er (.az (br bw (.a 0) (aV Ci (.aN 0) au) (fun _ _ => rfl)))))))
abbrev ky : Stmt := top 76
noncomputable def oJ (r i c b g h j : Addr): FS :=
  (aL (bN 1 (ag (cK [.eA, (i, true), .gV, .fE, .eC, .jm, .dM] (ae 0)) (ag (cK [.eA, .fD, (c, true), .fE, .eC, .jm, .dM] (ae 0)) (.a (.p (b, true) .eC) (.p .fE (g, true))))))
  (bo (ar aU (ae 1) (eI (.a (cK [.eA, .fD, .gV, .fE, .eC, (h, true), .dM] (ae 0)) (cK [(r, true), (i, true), (c, true), (b, true), (g, true), (h, true), .dM] (ae 0)))))))
theorem nL : aG [.iL,"_law_found"] ["_law_thing"] (ax ky) := by walk_at "sc"
theorem vp (F : eN K "_law_kinds" "_law_kinds" ky f fd)(hb : Binds K fd ["_law_thing"] [])(hm : mg "_law_kinds" = some (.d f))(m : ∀a∈[.eA, (i, true), .gV, .fE, .eC, .jm, .dM], dQ K i a.1 a.2)(d : ∀a∈[.eA, .fD, (c, true), .fE, .eC, .jm, .dM], dQ K c a.1 a.2)(J : ∀a∈[.eA, .fD, .gV, (b, true), .eC, .jm, .dM], dQ K b a.1 a.2)(M : ∀a∈[.eA, .fD, .gV, .fE, (g, true), .jm, .dM], dQ K g a.1 a.2)(n : ∀a∈[.eA, .fD, .gV, .fE, .eC, (h, true), .dM], dQ K h a.1 a.2)(l : ∀a∈[(r, true), (i, true), (c, true), (b, true), (g, true), (h, true), .dM], dQ K r a.1 a.2)(Q : mg "Cell" = some (.d c))(R : mg "Gain" = some (.d b))(p : mg "In" = some (.d i))(N : mg "Out" = some (.d h))(o : mg "Part" = some (.d r))(S : mg "Sum" = some (.d g))(q6 : mg "isinstance" = none):
  Def P w K mg base (k+1) "_law_kinds" 1 (cy 2 1 (oJ r i c b g h j)) :=
 bT F nL hb hm fun cdv A outer s H E hr => (aq (ei 1 nL.nd rfl .t (af (.n m p) (af (.n d Q) (.i (dN J rfl q6 rfl R (.a 0)) (dN M rfl q6 rfl S (.a 0))))))
  (.H (aV bh (.a 1) (hV (.i (dN n rfl q6 rfl N (.a 0)) (dN l rfl q6 rfl o (.a 0)))))))
theorem m6 : (["_law_word",.g1] : List Str).Nodup := by decide +kernel
abbrev gu : Stmt := top 77
noncomputable def eS (r i c b g h j : Addr)(U I L : List T->Option T)(v G x y B D d l m o p : List T->Option T): FS :=
  (aL (bN 2 (ag .dt (ag .hw (ag .df (.a .cd .e1)))))
  (aL (.aQ (.D (.d U 0) (ar aU (.an 2 (ar eO .dl (ae 0))) (eI (.a3 (fC .bE))))))
  (aL (.x (uO (.D (cR [(r, v), (i, G), (c, x), (b, y), (g, B), (h, D)] "row" (ae 0) ao) (.d I 1)) (.D (cR [(r, d), (i, d), (c, l), (b, m), (g, o), (h, p)] "wants" (ae 0) ao) (.d L 1))) (fC .Q))
  (aL (.aQ (gS (bU (.t (pV [c, b, h] [.eA, .fD, (c, true), (b, true), .eC, (h, true), .dM]) (dz (ag (fC (.ptr c)) (.ah b h))))) (.D (cY [c, b, h] "source" (ae 0)) (ar bI (ae 1) (ar EX (.d bJ 1) (aH 1))))))
  (aL (.x (uO (gS (bU (.p (b, true) .eC)) (.D (cY [b] "by" (ae 0)) (.J 1 2))) (gS (bU (.p .fE (g, true))) (.D (cY [g] "terms" (ae 0)) (.J 1 2)))) (fC .Q))
  (bo (BG (ar eO .dl .e1) (ar eO (cY [i, c, b, g] "name" (ae 0)) .fX))))))))
theorem jc : aG [.iL,.g1,"_law_words"] [.iL,.g1] (ax gu) := by walk_at "sc"
theorem pb (F : eN K "_law_part_good" "_law_part_good" gu f fd)(hb : Binds K fd [.iL,.g1] [])(hm : mg "_law_part_good" = some (.d f))(W : Def P w K mg base k "_law_kinds" 1 U)(T : Def P w K mg base k "_law_row" 1 I)(V : Def P w K mg base k "_law_wants" 1 L)(DM_row : ∀a∈[(r, v), (i, G), (c, x), (b, y), (g, B), (h, D)], cN P w K mg base k a.1 "row" 1 a.2)(DM_wants : ∀a∈[(r, d), (i, d), (c, l), (b, m), (g, o), (h, p)], cN P w K mg base k a.1 "wants" 1 a.2)(J : ∀a∈[.eA, .fD, .gV, (b, true), .eC, .jm, .dM], dQ K b a.1 a.2)(M : ∀a∈[.eA, .fD, .gV, .fE, (g, true), .jm, .dM], dQ K g a.1 a.2)(u : ∀a∈[.eA, .fD, (c, true), (b, true), .eC, (h, true), .dM], Bn K [c, b, h] a.1 a.2)(Q : mg "Cell" = some (.d c))(R : mg "Gain" = some (.d b))(N : mg "Out" = some (.d h))(S : mg "Sum" = some (.d g))(n:∀C∈[c,b,h],dE K C/\ba K C "source")(O:∀C∈[b],dE K C/\ba K C "by")(z:∀C∈[g],dE K C/\ba K C "terms")(q:∀C∈[i,c,b,g],dE K C/\ba K C "name")(q6:.bQ)(t:.cb):
  Def P w K mg base (k+1) "_law_part_good" 2 (cy 3 2 (eS r i c b g h j U I L v G x y B D d l m o p)):=
 bT F jc hb hm fun cdv A outer s H E hr=>(aq (ei 2 jc.nd rfl .t (af aY (af aY (af aY (af aY (.az aY))))))
  (aq (cL (.l (.h W 0) (aV bh (bQ (N':=["_law_word",.g1]) (no:=1) (cap:=[1]) rfl rfl .b0 rfl .bZ (.bd 2) (fun _ _ _ _ _ _=>(aE 0 m6 rfl .t)) .aT (fun _ _ _ _ _ _=>(gy .aH .iA (.a 0) (aX _)))) (hV (.az jJ)))) (.H jJ) bA)
  (aq (.M (iL (.l (.ad DM_row 0) (.h T 1)) (iM (.l (.ad DM_wants 0) (.h V 1)))) (.H jJ))
  (aq (cL (SW.st (iK (ck (.ak (Gy u) (er (af (ur rfl Q) (af (ur rfl R) (.az (ur rfl N))))))) (fZ (.l (.aC n) (br bw (.a 1) (aV Ci (.aN 1) au) .L))))) (.H jJ) bA)
  (aq (.M (iL (SW.st (iK (ck (.n J R)) (fZ (.l (.aC O) .iA)))) (iM (SW.st (iK (ck (.n M S)) (fZ (.l (.aC z) .iA)))))) (.H jJ))
  (.H (Qk (gy .aH .iA aY (aX _)) (oy (gy .aH (.aC q) .iA (aX _))))))))))
theorem mi:(["_law_one","_law_left"]:List Str).Nodup:=.c
theorem mj:(["_law_other","_law_left"]:List Str).Nodup:=.c
abbrev fY:Stmt:=top 78
noncomputable def eu (L:.Y):FS:=
  (sW 2 (nM (CM 2 (.am 1) (ah 3) (NZ 2 (bR .g5) (CN 2 (.J 3 1) (.d L 3)) iN))
  (nM (Bh 2 (uO (.a2 (.t bM .h7)) (.D .d1 (.d oN 2))) mP iN)
  (nM (CM 2 (.am 0) (ah 4) (zc (Bi 2 5 1 [2] (sY (ae 2)) (ah 0) (bR (ar eO (.f bJ (bf 1 [1] (aR (.c qL 1 0)) (ah 0) (bR .cj) (ae 0))) (aH 0))) (ae 0)) (zc (Bh 2 .dx mP iN) (Jh 2 (ae 4)))))
  (zEnd 2 (bo (ar Mn (ae 2) Mf)))))))
theorem c9:aG ["_law_order",.gN,"_law_left",.g1,"_law_name","_law_free"] ["_law_order",.gN] (ax fY):=by walk_at "sc"
theorem n0 (F:eN K "_law_order_good" "_law_order_good" fY f fd)(hb:Binds K fd ["_law_order",.gN] [])(hm:mg "_law_order_good" = some (.d f))(V:Def P w K mg base k "_law_wants" 1 L)(q:mg "list" = none)(q6:.bQ)(t:.cb)(v:mg "min" = none):
  Def P w K mg base (k+1) "_law_order_good" 2 (cy 6 2 (eu L)):=
 bT F c9 hb hm fun cdv A outer s H E hr=>(Ba c9.nd rfl .ix (pG (Cz PassesOwn.never rfl (.bd 1) (aE 3 c9.nd rfl .t) (pI (LO (bb (MT hr.units) (.e 3 au) (er (af aY (.az aY))) rfl) (pI (IW hr.units (pv 2) (.e 3 au) (.h V 3))) pH)))
  (pG (IV (SW.st (iL (gD (ck (.B (.a 0) q))) (iM (.l (.aN 0) (aI C3 rfl t zaq (.i 2)))))) qA pH)
  (pG (Cz PassesOwn.never rfl (.bd 0) (aE 4 c9.nd rfl .t) (uz (K8 5 c9.nd rfl rfl (N':=["_law_one","_law_left"]) (no:=1) (cap:=[2]) rfl rfl .b0 rfl .bZ (KY (.a 2)) (fun _ _ _ _ _ _=>(aE 0 mi rfl .t)) (fun _ _ _ _ _ _=>(eD (bb .aH (aI cg rfl t zaq (.az (bQ (N':=["_law_other","_law_left"]) (no:=1) (cap:=[1]) rfl rfl .b0 rfl .bZ (bV (D8 hr.units (.a 1) (.a 0) .L)) (fun _ _ _ _ _ _=>(aE 0 mj rfl .t)) (.O (bb (HV hr.units) (.a 0) (.a 1) rfl)) .aU))) au (aX _)))) .aU) (uz (IV (SW.st (iL (bb (wB hr.units) (.a 4) (.a 2) rfl) (iM (.l (.a 4) (aI (C4 rfl) rfl v rfl (.i 5)))))) qA pH) (pI (NJ (pv 2) (.a 4) ⟨rfl,rfl,rfl,rfl⟩)))))
  (Em (.H (gy (MS hr.units2) (.a 2) Nt (aX _))))))))
end
end My
set_option maxHeartbeats 4000000
namespace My
open PySem PySem.Spec PyProof.Rows L2 TM
variable {K:.j}
theorem HG:.jf:=.c
theorem HH:.jf:=.c
theorem HI:.jf:=.c
abbrev wK:Stmt:=top 79
noncomputable def CZ (j:Addr)(r l u v x p:.Y)(c i b h g d:.Y)(m:.fb):FS:=
  (aL (cj 1 (ai u (.a (.d r 0) (.t l (aH 3)))))
  (aL (cj 2 (.d v 1))
  (aL (cj 3 (oQ j m (bH 2)))
  (JF 4 (nS [(j,c)] "parts" (ae 3))
  (pk (Rv 4 (uO (.D (cR [(j,i)] "text" (ae 3) ao) (ae 2)) (uO (.a2 (ai bM (.a (ae 4) .h7))) (.D (.d bJ 4) (.d bJ 1)))) false)
  (pk (KJ 4 (lU (.v 4 1)) (cu (.c 5 6)) (.aQ (.a2 (ai x (.v 5 6)))))
  (pk (nK 4 (dU 7 1 [] (.am 1) (ah 0) (.s .af .hw) (.J 0 1)))
  (pk (nK 4 (.x (uO (.D (cR [(j,b)] "cell_names" (ae 3) ao) (ae 7)) (uO (.a2 (.aR (cR [(j,h)] "ins" (ae 3) ao))) (.a2 (.aR (.bu (j,g)))))) (fC .Q)))
  (pk (nK 4 (.x (.D (cR [(j,h)] "ins" (ae 3) ao) (.aK .dt)) (fC .Q)))
  (pk (nK 4 (.x (.D (.bu (j,g)) (.aK .e1)) (fC .Q)))
  (pk (nK 4 (Di 8 (nS [(j,d)] "order" (ae 3))))
  (pk (nK 4 (.aQ (.a2 (nv 8 (ai p (.v 8 1))))))
  (pk Co
  (pk (nK 4 (eY 8 (fC (.str "x"))))
  (Nl (iz (ai p (ag (cR [(j,d)] "order" (ae 3) ao) (bH 1))) (ar eO (.f bJ (cR [(j,c)] "parts" (ae 3) ao)) (.d bJ 1))))))))))))))))))
theorem kJ:aG ["_law_script",.gN,"_law_text_here","_law_wiring",.gl,.iL,.g1,"_law_names_here","_law_order"] .fT (ax wK):=by walk_at "sc"
theorem Mj (F:eN K "law" "law" wK f fd)(z:Def P w K mg base k "_law_parts" 1 r)(n:Def P w K mg base k "_law_cell" 2 l)(B:Def P w K mg base k "_law_laid" 2 u)(C:Def P w K mg base k "_law_text" 1 v)(D:Def P w K mg base k "_law_part_good" 2 x)(y:Def P w K mg base k "_law_order_good" 2 p)(DM_parts:∀a∈[(j,c)],cN P w K mg base k a.1 "parts" 1 a.2)(DM_text:∀a∈[(j,i)],cN P w K mg base k a.1 "text" 1 a.2)(DM_cell_names:∀a∈[(j,b)],cN P w K mg base k a.1 "cell_names" 1 a.2)(DM_ins:∀a∈[(j,h)],cN P w K mg base k a.1 "ins" 1 a.2)(DM_outs:∀a∈[(j,g)],cN P w K mg base k a.1 "outs" 1 a.2)(DM_order:∀a∈[(j,d)],cN P w K mg base k a.1 "order" 1 a.2)(DI_Wiring:iu P w K mg base k "Wiring" j 1 m)(q:mg "list" = none)(q6:.bQ)(t:.cb)(o:mg "zip" = none)(q5:mg "int" = none):
  iO P w K mg base uQ (k+1) f fd .fT (spT K 1 (cy 9 1 (CZ j r l u v x p c i b h g d m))):=
 JG F kJ fun cdv A outer s H E hr=>(aq (cb 1 kJ.nd rfl .t (.u B (af (.h z 0) (.az (aT n hr rfl (.i (.a 0) au) .aB)))))
  (aq (cb 2 kJ.nd rfl .t (.h C 1))
  (aq (cb 3 kJ.nd rfl .t (mW DI_Wiring hr rfl (.i 2) (ak aN)))
  (K3 kJ.nd rfl .t (uu DM_parts hr (.a 3))
  (fu (Qo (SW.st (iL (.l (.ad DM_text 3) (.a 2)) (iL (gD (ck (.B (.a 4) q))) (iM (.l (.aN 4) (.aN 1)))))) (.H jJ))
  (fu (NF PassesOwn.never rfl (Cu rfl o (.V 4 1)) (.aB (.az (aE 5 kJ.nd rfl .t) (aE 6 kJ.nd rfl .t))) (aw (.ax (gD (ck (.u D (.V 5 6)))) jJ)))
  (fu (kO (oz kJ.nd rfl rfl (N':=.cn) (no:=1) (cap:=[]) rfl rfl .b0 rfl .bZ (.bd 1) (fun _ _ _ _ _ _=>(aE 0 HG rfl .t)) (.O (.H .eR aY)) (fun _ _ _ _ _ _=>(br bw (.a 0) au .L))))
  (fu (kO (.M (iL (.l (.ad DM_cell_names 3) (.a 7)) (iL (gD (ck (.B (.ad DM_ins 3) q5))) (iM (gD (ck (.B (.ad DM_outs 3) q5)))))) (.H jJ)))
  (fu (kO (cL (.l (.ad DM_ins 3) (.h (bQ (N':=.cn) (no:=1) (cap:=[]) rfl rfl .b0 rfl .bZ (.bd 1) (fun _ _ _ _ _ _=>(aE 0 HH rfl .t)) (.O (bb (dy hr.units) (br bw (.a 0) au .L) aY (aX _))) .aU))) (.H jJ) bA))
  (fu (kO (cL (.l (.ad DM_outs 3) (.h (bQ (N':=.cn) (no:=1) (cap:=[]) rfl rfl .b0 rfl .bZ (.bd 1) (fun _ _ _ _ _ _=>(aE 0 HI rfl .t)) (.O (bb (dy hr.units) (br bw (.a 0) au .L) aY (aX _))) .aU))) (.H jJ) bA))
  (fu (kO (K1 8 kJ.nd rfl .t (uu DM_order hr (.a 3))))
  (fu (kO (.ax (gD (ck (D9 8 (.u y (.V 8 1))))) jJ))
  (fu (IQ (pv 4))
  (fu (kO (.aj 8 aY))
  (K0 (NG (mI (.u y (af (.ad DM_order 3) (.i 1))) (oy (gy .aH (.h (.ad DM_parts 3)) (.aN 1) (aX _))))))))))))))))))))
end My
namespace Qm
end Qm
namespace Rq
end Rq
namespace My
open PySem PySem.Spec PyProof.Rows L2 TM
abbrev one (c:Nat):Str:=⟨#[c]⟩
def cs (x:Str):List Nat:=x.cps.toList
theorem xj (a b:Str):cs (a++b)=cs a++cs b:=Array.toList_append
theorem BB {a b:Str}(h:cs a=cs b):a=b:=by
 cases a;cases b
 exact congrArg Str.mk (Array.ext' h)
theorem L6 (a:Str):a.length=(cs a).length:=by cases a;rfl
theorem LZ (x:Str)(c i:Nat):StrLaws.At x (one c) x.length i ↔ (cs x)[i]? = some c:=StrLaws.subAt_one x c i
theorem parts_free {x:Str}{c:Nat}:∀{cuts:.D} {lo f:Nat},StrLaws.ChainG x (one c) x.length lo cuts f->(∀k,f≤k->¬ StrLaws.At x (one c) x.length k)->∀p∈StrLaws.partsFrom x 1 lo cuts,c∉cs p
 |[],lo,f,h,hf,p,hp=>by
  rw [StrLaws.ChainG.eq_1] at h
  subst h
  rw [StrLaws.partsFrom.eq_1,zac] at hp
  subst hp
  exact StrLaws.part_free x c _ _ .bJ fun k h1 _=>hf k h1
 |i::r,lo,f,h,hf,p,hp=>by
  rw [StrLaws.ChainG.eq_2] at h
  obtain⟨h1,h2,M,D⟩:=h
  rw [StrLaws.partsFrom.eq_2] at hp
  rcases zao.mp hp with rfl | hp
  ·refine StrLaws.part_free x c _ _ ?_ M
   have:=h2.1
   omega
  ·exact parts_free (cuts:=r) D hf p hp
theorem split_free (x:Str)(c:Nat):∀p∈Txt.split x (one c),c∉cs p:=fun p hp=>by
 unfold Txt.split at hp
 obtain⟨f,h1,h2⟩:=StrLaws.occ_tight x (one c) (zam 1)
 split at hp
 ·next h =>
  rw [zac] at hp
  subst hp
  rw [Bool.or_eq_true,decide_eq_true_eq,decide_eq_true_eq] at h
  rcases h with h | h
  ·have hz:(cs p).length=0:=by rw [<- L6];exact Nat.lt_one_iff.mp h
   rw [List.length_eq_zero_iff.mp hz]
   exact zan
  ·exact StrLaws.kind_free p c h
 ·split at hp
  ·next h =>
   rw [zac] at hp
   subst hp
   rw [List.isEmpty_iff.mp h,StrLaws.ChainG.eq_1] at h1
   subst h1
   intro m
   obtain⟨i,hi,e⟩:=zbA m
   exact h2 i (zaU _) ((LZ p c i).mpr (by rw [zav hi,e]))
  ·rw [StrLaws.partsBetween_eq] at hp
   exact parts_free h1 h2 p hp
def jl (c:Nat):List .br->List Nat
 |[]=>[]
 |[p]=>p
 |p::q::r=>p++c::jl c (q::r)
theorem jn {c:Nat}{p q:.D}{r:.H}:jl c (p::q::r)=p++c::jl c (q::r):=rfl
theorem rJ (c:Nat):∀ps:List Str,cs ((one c).join ps)=jl c (ps.map cs)
 |[]=>rfl
 |[p]=>by rw [Str.join.eq_2];rfl
 |p::q::r=>by
  rw [Str.join.eq_3 _ _ _ (fun h=>by cases h),xj,xj,rJ c (q::r),za5]
  rfl
theorem Ak {c:Nat}:∀{p q r s:.D},c∉p->c∉q->p++c::r=q++c::s->p=q/\r=s
 |[],[],r,s,_,_,h=>⟨rfl,by simpa using h⟩
 |[],b::q,r,s,_,h2,h=>by
  simp only [List.nil_append,List.cons_append,List.cons.injEq] at h
  exact absurd (by rw [h.1];exact zae) h2
 |a::p,[],r,s,h1,_,h=>by
  simp only [List.nil_append,List.cons_append,List.cons.injEq] at h
  exact absurd (by rw [h.1];exact zae) h1
 |a::p,b::q,r,s,h1,h2,h=>by
  simp only [List.cons_append,List.cons.injEq] at h
  obtain⟨e1,e2⟩:=Ak (fun m=>h1 (zad _ m)) (fun m=>h2 (zad _ m)) h.2
  exact⟨by rw [h.1,e1],e2⟩
theorem Ho {c:Nat}:∀{ps i:.H},ps≠[]->i≠[]->(∀p∈ps,c∉p)->(∀q∈i,c∉q)->jl c ps=jl c i->ps=i
 |[],_,h,_,_,_,_=>absurd rfl h
 |_,[],_,h,_,_,_=>absurd rfl h
 |[p],[q],_,_,_,_,h=>by rw [show p=q from h]
 |[p],q::q2::i,_,_,h1,_,h=>by
  rw [jn] at h
  exact absurd (show c∈p by rw [show p=q++c::jl c (q2::i) from h];simp) (h1 p List.mem_cons_self)
 |p::p2::ps,[q],_,_,_,h2,h=>by
  rw [jn] at h
  exact absurd (show c∈q by rw [<- (show p++c::jl c (p2::ps)=q from h)];simp) (h2 q List.mem_cons_self)
 |p::p2::ps,q::q2::i,_,_,h1,h2,h=>by
  rw [jn,jn] at h
  obtain⟨e1,e2⟩:=Ak (h1 p zae) (h2 q zae) h
  rw [e1,Ho .f .f (fun z hz=>h1 z (.S hz)) (fun z hz=>h2 z (.S hz)) e2]
theorem tH:∀{ps i:.U},ps.map cs=i.map cs->ps=i
 |[],[],_=>rfl
 |[],_::_,h=>by cases h
 |_::_,[],h=>by cases h
 |p::ps,q::i,h=>by
  simp only [List.map_cons,List.cons.injEq] at h
  rw [BB h.1,tH h.2]
theorem IP (x y:Str):Txt.split x y≠[]:=by
 unfold Txt.split
 split
 ·simp
 ·split
  ·simp
  ·rw [StrLaws.partsBetween_eq]
   obtain⟨p,r,e⟩:=StrLaws.partsFrom_ne x y.length 0 (Builtin.Str.occurrences x y 0 x.length (x.length+1))
   rw [e]
   simp
theorem Cv {c:Nat}{ps:.U}(h:ps≠[])(hf:∀p∈ps,c∉cs p):Txt.split ((one c).join ps) (one c)=ps:=by
 refine tH (Ho (c:=c) ?_ ?_ ?_ ?_ ?_)
 ·intro z
  exact IP _ _ (List.map_eq_nil_iff.mp z)
 ·intro z
  exact h (List.map_eq_nil_iff.mp z)
 ·intro p hp
  obtain⟨q,hq,rfl⟩:=zai.mp hp
  exact split_free _ c q hq
 ·intro p hp
  obtain⟨q,hq,rfl⟩:=zai.mp hp
  exact hf q hq
 ·rw [<- rJ,StrLaws.join_split,rJ]
theorem Bd (c:Nat)(ps:.U):Txt.join (one c) ps=(one c).join ps:=by
 cases ps with
 |nil=>rfl
 |cons p ps=>exact StrLaws.glued_cons (one c) ps p
theorem Sf:(17:Nat)≤sizeLine:=aQ .e
theorem Uj:(6:Nat)<sizeLine:=bX .e
theorem G0 {a b c d:Int}:eO (.tup .hf) (.tup [.int c,.int d])=some (.bl (decide (a=c)&&decide (b=d))):=by
 have e:eO (.tup .hf) (.tup [.int c,.int d])=some (.bl ((a == c)&&((b == d)&&true))):=rfl
 rw [e,Bool.and_true,zbj,zbj]
theorem EU {x y:Bool}:eO .i1 .i1=some .bE:=by
 have e:eO .i1 .i1=some (.bl ((x == x)&&((y == y)&&true))):=rfl
 rw [e,beq_self_eq_true,beq_self_eq_true]
 rfl
theorem pO:∀(n:Nat) (u:.aN) (x y:Nat),y<n->cP (bR (.a jM 1 0)) .em n [.bp x,.bp y,u]
  = some (.nx [.bp (Nat.gcd x y),.bp 0,u])
 |0,_,_,_,h=>.d
 |n+1,u,x,y,h=>by
  unfold cP
  by_cases R:y=0
  ·subst R
   have h0:((0:Nat):Int)=0:=rfl
   walk_at "ev"
   simp
  ·have a:¬ ((y:Int)=0):=.d
   have hm:Int.fmod (x:Int) (y:Int)=((x%y:Nat):Int):=by rw [zaX _ .d];rfl
   have L:Nat.gcd x y=Nat.gcd y (x%y):=by rw [zbT x y,Nat.gcd_rec y x,zbT]
   have A:=pO n u y (x%y) (by have:=za3 x (zbH R);omega)
   rw [L]
   clear L h R
   walk_at "ev"
theorem wZ:∀(n:Nat) (u v:.aN) (x y:Nat),y<n->cP (bR (.a jM 3 0)) (uS 2 3 (.a (ae 3) (ar dB (ae 2) (ae 3)))) n [u,v,.bp x,.bp y]
  = some (.nx [u,v,.bp (Nat.gcd x y),.bp 0])
 |0,_,_,_,_,h=>.d
 |n+1,u,v,x,y,h=>by
  unfold cP
  by_cases R:y=0
  ·subst R
   have h0:((0:Nat):Int)=0:=rfl
   walk_at "ev"
   simp
  ·have a:¬ ((y:Int)=0):=.d
   have hm:Int.fmod (x:Int) (y:Int)=((x%y:Nat):Int):=by rw [zaX _ .d];rfl
   have L:Nat.gcd x y=Nat.gcd y (x%y):=by rw [zbT x y,Nat.gcd_rec y x,zbT]
   have A:=wZ n u v y (x%y) (by have:=za3 x (zbH R);omega)
   rw [L]
   clear L h R
   walk_at "ev"
theorem uI {ft:FT}{fb:FS}{τ τ':az}{n:Nat}(h:ft τ=some .jB)(hn:0<n):cP ft fb n τ=some (.nx τ'):=by
 obtain⟨m,rfl⟩:∃m,n=m+1:=⟨n-1,.d⟩
 unfold cP
 rw [h]
 rfl
theorem Ot:0<B:=.c
theorem bits_le {x:Int}(h:x.natAbs<B):¬ ((Builtin.Int.intBits x:Int)>4000):=by
 unfold Builtin.Int.intBits
 by_cases h0:x=0
 ·subst h0;decide
 ·rw [if_neg (by simpa using h0)]
  have:x.natAbs.log2<4000:=(Nat.log2_lt .d).mpr h
  omega
noncomputable def mU:List T->Option T
 |[.int a,.int b]=>if a.natAbs<B/\b.natAbs<B then some (.ak (Int.gcd a b)) else none
 |_=>none
theorem B9 {a b:Int}(ha:a.natAbs<B)(hb:b.natAbs<B):mU .hf=some (.ak (Int.gcd a b)):=.al ⟨ha,hb⟩
theorem FH (ts:List T)(t:T)(h:mU ts=some t):cy 3 2 (sx B .ja) ts=some t:=by
 unfold mU at h
 split at h
 ·next a b =>
  split at h
  ·next hb =>
   cases h
   have hw:=pO B none a.natAbs b.natAbs (hb.2)
   have c:=bits_le (x:=((b.natAbs:Nat):Int)) (by simpa using hb.2)
   have d:BK (.ak (Builtin.Int.intBits ((b.natAbs:Nat):Int))) (.ak 4000)=some .Q:=by
    show some (T.bl (decide _))=_
    rw [decide_eq_false c]
   have g:cP .dY (aL .em (cG .dY (lS (ai .ja (.v 0 1)) (cu (aD (ah 0) (.c 1 2)))) bK)) B [.bp (a.natAbs:Nat),.bp (b.natAbs:Nat),none]
     = some (.nx [.bp (a.natAbs:Nat),.bp (b.natAbs:Nat),none]):=uI (by
      clear hw c
      walk_at "ev") Ot
   unfold cy sx
   clear hb c d
   walk_at "ev"
   rfl
  ·cases h
 ·cases h
def sg (a b:Int):Int:=if b<0 then -(Int.gcd a b:Int) else (Int.gcd a b:Int)
def Ml (a b:Int):T:=.tup [.int (a.fdiv (sg a b)),.int (b.fdiv (sg a b))]
noncomputable def nB:List T->Option T
 |[.int a,.int b]=>if a.natAbs<B/\b.natAbs<B/\0<b then some (Ml a b) else none
 |_=>none
theorem Hz {a b:Int}(ha:a.natAbs<B)(hb:b.natAbs<B)(h0:0<b):nB .hf=some (Ml a b):=.al ⟨ha,hb,h0⟩
theorem G7 {a b:Int}(h0:b≠0):¬ (.gd:Int)=0:=by
 intro h
 have:Int.gcd a b=0:=.d
 rw [Int.gcd_eq_zero_iff] at this
 exact h0 this.2
theorem O3 {a b:Int}(hb:b.natAbs<B)(h0:b≠0):Int.gcd a b<B:=by
 have h1:Int.gcd a b∣b.natAbs:=Int.gcd_dvd_natAbs_right a b
 have:=Nat.le_of_dvd .d h1
 omega
theorem A8 (ts:List T)(t:T)(h:nB ts=some t):cy 4 2 (lL B) ts=some t:=by
 unfold nB at h
 split at h
 ·next a b =>
  split at h
  ·next hb =>
   cases h
   obtain⟨ha,hb,h0⟩:=hb
   have h2:=G7 (a:=a) (b:=b) .d
   have M:=O3 (a:=a) hb .d
   have D:(.gd:Int).natAbs<B:=.d
   have hw:=wZ B (fB (.ak a)) (fB (.ak b)) a.natAbs b.natAbs hb
   have l:((b.natAbs:Nat):Int)=b:=.d
   rw [l] at hw
   have L:Nat.gcd a.natAbs b.natAbs=Int.gcd a b:=rfl
   unfold cy lL
   have e:Ml a b=.tup [.int (a.fdiv (Int.gcd a b:Int)),.int (b.fdiv (Int.gcd a b:Int))]:=by unfold Ml sg;rw [if_neg .d]
   clear h0 l
   walk_at "ev"
  ·cases h
 ·cases h
theorem Oq:(10:Nat)^100<B:=.c
theorem Oy {i:Int}(h1 : -(10:Int)^100<i)(h2:i<(10:Int)^100):i.natAbs<B:=by
 have:=Oq
 have M:((10:Nat)^100:Nat)=10000000000000000000000000000000000000000000000000000000000000000000000000000000000000000000000000000:=.c
 have D:(10:Int)^100=10000000000000000000000000000000000000000000000000000000000000000000000000000000000000000000000000000:=.c
 omega
def S (l:.D):Str:=⟨l.toArray⟩
theorem Gh (x:Str):S x.cps.toList=x:=by cases x;simp [S]
theorem dJ (l:.D):(S l).cps.toList=l:=by simp [S]
theorem cm (l:.D):(S l).length=l.length:=by simp [S,Str.length]
theorem CW (a b:.D):S a++S b=S (a++b):=by
 show (⟨(S a).cps++(S b).cps⟩:Str)=_
 simp [S]
theorem vN {a b:.D}(h:S a=S b):a=b:=by
 have:=congrArg (fun x:Str=>x.cps.toList) h
 simpa [S] using this
theorem Gg {x:Str}{l:.D}(h:x.cps.toList=l):x=S l:=by rw [<- h,Gh]
def ds (n:Nat):List Nat:=(Nat.toDigits 10 n).map Char.toNat
theorem K4 (n:Nat):Str.ofString (toString ((n:Nat):Int))=S (ds n):=Gg (PySem.W.KIN.signs_num n)
theorem K5 (n:Nat):Str.ofString (toString (-((n+1:Nat):Int)))=S (45::ds (n+1)):=by
 refine Gg ?_
 rw [signs_ofString]
 show (("-"++Nat.repr (n+1)).toList).map Char.toNat=_
 rw [String.toList_append,zaP,Nat.toList_repr]
 rfl
theorem fM (n:Nat):NumText.AllDigits (ds n):=by
 intro c U
 obtain⟨ch,a,e⟩:=zai.mp U
 have r:=digit_range (Nat.isDigit_of_mem_toDigits .e .e a)
 rw [<- e]
 exact r
theorem BF (n:Nat):NumText.digitsVal (ds n)=n:=PySem.W.KIN.val_back n
theorem zD (n:Nat):ds n≠[]:=by
 intro e
 have h:1≤(Nat.toDigits 10 n).length:=Nat.length_toDigits_pos
 have:=congrArg List.length e
 unfold ds at this
 rw [zah] at this
 simp at this
theorem qJ {n:Nat}(h:n<10):ds n=[48+n]:=by
 unfold ds
 rw [Nat.toDigits_of_lt_base h,NumText.digitChar_of n h]
 have:∀m:Nat,m<10->(Char.ofNat (48+m)).toNat=48+m:=.e
 simp [this n h]
theorem rM {m d:Nat}(hm:0<m)(hd:d<10):ds (10*m+d)=ds m++ds d:=by
 unfold ds
 rw [<- Nat.toDigits_append_toDigits .e hm hd,zaP]
theorem GG:∀(k q r:Nat),0<q->r<10^(k+1)->ds (q*10^(k+1)+r)=ds q++(List.replicate (k+1-(ds r).length) 48++ds r)
 |0,q,r,hq,hr=>by
  have hr:r<10:=by simpa using hr
  rw [show q*10^(0+1)+r=10*q+r by simp;omega,rM hq hr,qJ hr]
  rfl
 |k+1,q,r,hq,hr=>by
  have h1:r/10<10^(k+1):=by
   rw [zbt .e]
   rw [Nat.pow_succ] at hr
   exact hr
  have h2:r%10<10:=za3 _ .e
  have M:q*10^(k+1+1)+r=10*(q*10^(k+1)+r/10)+r%10:=by
   rw [Nat.pow_succ 10 (k+1),<- Nat.mul_assoc]
   have:=zbB r 10
   omega
  have D:0<q*10^(k+1)+r/10:=by
   have:0<q*10^(k+1):=Nat.mul_pos hq (Nat.pow_pos .e)
   omega
  rw [M,rM D h2,GG k q (r/10) hq h1]
  by_cases R:r/10=0
  ·have f:r<10:=.d
   have l:r%10=r:=Nat.mod_eq_of_lt f
   rw [R,l,qJ f,qJ (show 0<10 by decide)]
   simp only [List.length_singleton,List.append_assoc,Nat.add_sub_cancel]
   congr 1
   rw [show k+1=k+1 from rfl,List.replicate_succ' (n:=k)]
   simp
  ·have f:ds r=ds (r/10)++ds (r%10):=by
    rw [<- rM .d h2,zbB]
   rw [f,zaj,qJ h2,zax]
   simp only [List.append_assoc]
   rw [show k+1+1-((ds (r/10)).length+1)=k+1-(ds (r/10)).length by omega]
theorem fG:∀(k n:Nat),n<10^(k+1)->(ds n).length≤k+1
 |0,n,h=>by rw [qJ .au];exact Nat.le_refl _
 |k+1,n,h=>by
  by_cases h1:n<10
  ·rw [qJ h1];simp
  ·have h2:n/10<10^(k+1):=by
    rw [zbt .e]
    rw [Nat.pow_succ] at h
    exact h
   have e:ds n=ds (n/10)++ds (n%10):=by
    rw [<- rM .d (za3 _ .e),zbB]
   have:=fG k (n/10) h2
   rw [e,zaj,qJ (za3 n (by decide:0<10)),zax]
   omega
theorem pK:Str.ofString "-" = S [45]:=.c
theorem uB:Str.ofString "/" = S [47]:=.c
theorem yU:Str.ofString "" = S []:=.c
theorem QF:Str.ofString "1" = S [49]:=.c
theorem Ez (l:.D)(c i:Nat):StrLaws.At (S l) (S [c]) (S l).length i ↔ l[i]? = some c:=by
 have:=StrLaws.subAt_one (S l) c i
 rw [dJ] at this
 exact this
theorem wI (l:.D):Txt.removeprefix (S (45::l)) (S [45])=S l:=by
 rw [StrLaws.removeprefix_eq,if_pos]
 ·rw [dJ,cm,cm]
  show S ((l.take (l.length+1-1)))=S l
  rw [Nat.add_sub_cancel,zbQ]
 ·rw [cm,cm,StrLaws.subAt_eq,dJ,dJ,cm]
  simp
theorem wJ {l:.D}(h:l.head?≠some 45):Txt.removeprefix (S l) (S [45])=S l:=by
 rw [StrLaws.removeprefix_eq,if_neg]
 rw [cm,cm,StrLaws.subAt_eq,dJ,dJ,cm]
 cases l with
 |nil=>simp
 |cons c r =>
  simp at h
  simp [h]
theorem Kp {l:.D}(h:47∉l):Txt.partition (S l) (S [47])=(S l,S [],S []):=by
 rcases partition_whole (S l) (S [47]) with ⟨e,_⟩ | ⟨i,e,h1,_⟩
 ·exact e
 ·exact absurd (zbk ((Ez l 47 i).mp h1)) h
theorem Ii {a b:.D}(h:47∉a):Txt.partition (S (a++47::b)) (S [47])=(S a,S [47],S b):=by
 have L:(a++47::b)[a.length]? = some 47:=.f
 rcases partition_whole (S (a++47::b)) (S [47]) with ⟨_,h1⟩ | ⟨i,e,h1,h2⟩
 ·exact absurd ((Ez _ 47 a.length).mpr L) (h1 a.length)
 ·have c:=(Ez _ 47 i).mp h1
  have hi:i=a.length:=by
   rcases Nat.lt_trichotomy i a.length with hl | hl | hl
   ·rw [List.getElem?_append_left hl] at c
    exact absurd (zbk c) h
   ·exact hl
   ·exact absurd ((Ez _ 47 a.length).mpr L) (h2 a.length hl)
  subst hi
  rw [e]
  have e1:Builtin.Str.strSub (S (a++47::b)) 0 a.length=S a:=Gg (by rw [StrLaws.strSub_toList,dJ];simp)
  have e2:Builtin.Str.strSub (S (a++47::b)) (a.length+(S [47]).length) (S (a++47::b)).length=S b:=Gg (by
   rw [StrLaws.strSub_toList,dJ,cm,cm]
   simp only [List.length_append,List.length_cons,List.length_nil,Nat.zero_add]
   rw [List.drop_append,List.drop_eq_nil_of_le .d,zaO,show a.length+1-a.length=1 by omega,show a.length+(b.length+1)-(a.length+1)=b.length by omega]
   show b.take b.length=b
   exact zbQ)
  rw [e1,e2]
theorem JS (c:Nat):rf (.str ⟨#[c]⟩) (.str "0123456789")=some (.au .iT)/\JM (.str ⟨#[c]⟩) (.str "0123456789")=some (.bl (!decide .iT)):=by
 have hl:.fZ=S [48,49,50,51,52,53,54,55,56,57]:=.c
 have hm:(Builtin.Str.occurrences .fZ ⟨#[c]⟩ 0 (Str.ofString "0123456789").length 1).isEmpty = !decide .iT:=by
  rw [hl]
  rcases StrLaws.occ_head (S [48,49,50,51,52,53,54,55,56,57]) ⟨#[c]⟩ 1 (zam 1) with ⟨e,h⟩ | ⟨i,r,e,h,_⟩
  ·rw [e]
   have:¬ .iT:=fun U=>by
    have:c∈[48,49,50,51,52,53,54,55,56,57]:=.i
    obtain⟨i,hi⟩:=List.mem_iff_getElem?.mp this
    exact h i ((Ez _ c i).mpr hi)
   rw [decide_eq_false this]
   rfl
  ·rw [e]
   have:c∈[48,49,50,51,52,53,54,55,56,57]:=zbk ((Ez _ c i).mp h)
   have:48≤c/\c≤57:=by simp at this;omega
   rw [decide_eq_true this]
   rfl
 refine⟨?_,?_⟩
 ·show some (T.bl (!(Builtin.Str.occurrences .fZ ⟨#[c]⟩ 0 (Str.ofString "0123456789").length 1).isEmpty))=_
  rw [hm,Bool.not_not]
 ·show some (T.bl (Builtin.Str.occurrences .fZ ⟨#[c]⟩ 0 (Str.ofString "0123456789").length 1).isEmpty)=_
  rw [hm]
theorem FY {l:.D}(h:NumText.AllDigits l)(hn:l≠[])(hl:l.length≤36):Txt.zfill (S l) 36=S (List.replicate (36-l.length) 48++l):=by
 unfold Txt.zfill
 rw [cm]
 by_cases h1:(36:Int)≤(l.length:Int)
 ·rw [if_pos h1,show 36-l.length=0 by omega]
  rfl
 ·rw [if_neg h1]
  show PySem.zfilled (S l) (36-l.length)=_
  unfold PySem.zfilled
  cases l with
  |nil=>exact absurd rfl hn
  |cons c r =>
   have U:=h.head
   have e:(S (c::r)).cps[0]? = some c:=by simp [S]
   rw [e]
   have:∀y:Str,(match some c with | some 43=>y | some 45=>y | _=>Builtin.Str.padded (S (c::r)) (36-(c::r).length) 0 48)=Builtin.Str.padded (S (c::r)) (36-(c::r).length) 0 48:=by
    intro y
    split
    ·next h=>cases h;omega
    ·next h=>cases h;omega
    ·rfl
   refine (this _).trans ?_
   refine Gg ?_
   simp [Builtin.Str.padded,S]
theorem join_one (a:.D):Txt.join (S []) [S a]=S a:=by
 show Builtin.Str.glued (S []) [S a]=_
 rw [StrLaws.glued_eq_join]
 rfl
theorem Hs (a b:.D):Txt.join (S []) [S a,S b]=S (a++b):=by
 show Builtin.Str.glued (S []) [S a,S b]=_
 rw [StrLaws.glued_eq_join]
 show S a++S []++S b=_
 rw [CW,CW,zaw]
abbrev s (t:T):Option Sl:=fB t
abbrev tx (l:.D):T:=.str (S l)
def Lz (c:Nat):Bool:=decide .iT
def Pg (l:.D):Bool:=(decide (1≤l.length)&&decide (l.length≤30))&&l.all Lz
theorem JX {l:.D}:Pg l=true ↔ (l≠[]/\l.length≤30)/\NumText.AllDigits l:=by
 unfold Pg NumText.AllDigits
 simp only [Bool.and_eq_true,decide_eq_true_eq,List.all_eq_true,Lz]
 constructor
 ·rintro ⟨⟨h1,h2⟩,M⟩
  exact⟨⟨fun e=>by rw [e] at h1;simp at h1,h2⟩,M⟩
 ·rintro ⟨⟨h1,h2⟩,M⟩
  exact⟨⟨by cases l with | nil=>exact absurd rfl h1 | cons a b=>simp,h2⟩,M⟩
abbrev N5:List T->Option T:=cy 1 1 oK
theorem cJ {α:Type}{φ:α->T}{fe:FE}{g:α->T}{ρ:az}(hr:bF ρ=true):∀(l:List α) (u:.aN) (acc:List T),(∀x∈l,fe (fB (φ x)::ρ)=some (g x,fB (φ x)::ρ))->acc.length+l.length≤sizeLine->dG (ah 0) aO fe .jl (u::ρ) acc=some (acc++l.map g)
 |[],u,acc,_,_=>by simp [dG]
 |x::l,u,acc,h,hl=>by
  have i:.dd:=hl
  rw [zaf,dG,show ah 0 (φ x) (u::ρ)=some (fB (φ x)::ρ) from rfl,zaa,show aO (fB (φ x)::ρ)=some (true,fB (φ x)::ρ) from rfl,zaa,if_pos rfl,h x zae,zaa,if_pos ⟨hr,.d⟩,
   cJ hr l _ _ (fun z hz=>h z (.S hz)) .cz,List.map_cons,List.append_assoc]
  rfl
theorem aS {g:.cX}{f1 f2:FE}{τ τ1 τ2:az}{a b t:T}(h1:f1 τ=some (a,τ1))(h2:f2 τ1=some (b,τ2))(M:g a b=some t):ar g f1 f2 τ=some (t,τ2):=by
 unfold ar
 rw [h1,zaa]
 dsimp only
 rw [h2,zaa]
 dsimp only
 rw [M]
 rfl
theorem Eh (l:.D):jz (S l)=l.map fun c=>T.str ⟨#[c]⟩:=by unfold jz;rw [dJ]
theorem vW (f:Nat->Bool):∀l:List Nat,boolsOf (l.map fun c=>T.bl (f c))=some (l.map f)
 |[]=>rfl
 |c::l=>by
  show (boolsOf (l.map fun c=>T.bl (f c))).bind _=_
  rw [vW f l]
  rfl
theorem LC {l:.D}(h:l.length≤1000):bJ [tx l]=some (.int l.length):=by
 show (.aI (T.int (S l).length))=_
 rw [cm,.al (aQ h)]
theorem Lu (l:.D)(h:l.length≤1000):N5 [tx l]=some (.bl (Pg l)):=by
 have d:(.bC) .eg=some (.lst (l.map fun c=>.bl (Lz c)),.eg):=by
  show (dG (ah 0) aO (.m rf (fC (.str "0123456789"))) (jz (S l)) [none] []).bind _=_
  rw [Eh,cJ (g:=fun c=>.bl (Lz c)) rfl l none [] (fun c _=>?_) (by simpa using aQ h)]
  ·rfl
  ·exact aS rfl rfl (JS c).1
 have f:mZ [.lst (l.map fun c=>.bl (Lz c))]=some (.bl (l.all Lz)):=by
  show (boolsOf _).bind _=_
  rw [vW]
  show some (T.bl ((l.map Lz).all id))=_
  rw [zbS]
  rfl
 have hlen:=LC h
 have a:(.an 30) .eg=some (.bl (decide (1≤l.length)&&decide (l.length≤30)),.eg):=by
  have h0:(.d1) .eg=some (.int l.length,.eg):=by
   show (bJ [tx l]).bind _=_
   rw [hlen]
   rfl
  unfold gT
  rw [show aH 1 .eg=some (.int 1,.eg) from rfl,zaa]
  dsimp only
  rw [h0,zaa]
  show (some (.be ((1:Int)≤(l.length:Int)))).bind _=_
  rw [zaa]
  by_cases h1:1≤l.length
  ·rw [decide_eq_true (show (1:Int)≤(l.length:Int) by omega),decide_eq_true h1]
   show some (T.bl (decide ((l.length:Int)≤30)),_)=_
   rw [zbp]
   congr 3
   exact .ed
  ·rw [decide_eq_false (show ¬ (1:Int)≤(l.length:Int) by omega),decide_eq_false h1]
   rfl
 show (bo (iz (.an 30) (.f mZ .bC)) .eg).bind _=_
 unfold Pg
 generalize (.an 30)=fc at *
 generalize .bC=i at *
 generalize (decide (1≤l.length)&&decide (l.length≤30))=b at *
 cases b with
 |true =>
  rw [zbp]
  unfold bo iz
  rw [a,zaa]
  dsimp only
  show ((((i .eg).bind _).bind _).bind _).bind _=_
  rw [d]
  show ((((mZ [.lst (l.map fun c=>.bl (Lz c))]).bind _)).bind _).bind _=_
  rw [f]
  rfl
 |false =>
  unfold bo iz
  rw [a]
  rfl
abbrev N4:List T->Option T:=cy 3 1 (vQ 3)
theorem oO {n:Nat}(h:n<10^100):lq [.int n]=some (tx (ds n)):=by
 show (if (n:Int).natAbs.log2<1920 then some (T.str (Str.ofString (toString (n:Int)))) else none)=_
 rw [if_pos,K4]
 show n.log2<1920
 by_cases h0:n=0
 ·rw [h0];decide
 ·refine (Nat.log2_lt h0).mpr (zaZ h .c)
theorem E5 {a b:.D}(h:.g7):aU (tx a) (tx b)=some (tx (a++b)):=by
 rw [GY (by rw [cm,cm];exact aQ h),CW]
theorem EY {a:.D}(h:a.length≤1000):cU .d0 (.lst [tx a])=some (tx a):=by
 show (if ((S a).length+0)+1*(Str.ofString "").length≤16777216 then some (T.str (Txt.join (Str.ofString "") [S a])) else none)=_
 rw [yU,cm,cm,if_pos .i,join_one]
theorem EZ {a b:.D}(h:.g7):cU .d0 (.lst [tx a,tx b])=some (tx (a++b)):=by
 show (if ((S a).length+((S b).length+0))+2*(Str.ofString "").length≤16777216 then some (T.str (Txt.join (Str.ofString "") [S a,S b])) else none)=_
 rw [yU,cm,cm,cm,if_pos .i,Hs]
def OX:FT:=(bR (.m O1 .fm))
def OW:FS:=(aL (lS (.t OC .fm) (cu (.c 0 2)))
  (eY 1 (ar Ms (.d lq 2) (aH 36))))
theorem LL:.fm=fun τ=>some (.int 1000000000000000000000000000000000000,τ):=by funext τ;kernel_rfl
theorem GQ (n:Nat)(us:List T)(o:.aN):OX [.e n,.t us,o]=some (decide (10^36≤n),[.e n,.t us,o]):=by
 unfold OX
 rw [LL]
 show some (decide ((1000000000000000000000000000000000000:Int)≤(n:Int)),_)=_
 congr 2
 exact .ed
theorem Mg (n:Nat)(h:n<10^72)(us:List T)(hu:us.length≤10)(o:.aN):OW [.e n,.t us,o]=some (.nx [.e ((n/10^36:Nat):Int),.t (us++[tx .aX]),.e .gM]):=by
 have hr:n%10^36<10^36:=za3 _ .c
 have hd:OC [.int n,.int 1000000000000000000000000000000000000]=some (.tup [.int ((n/10^36:Nat):Int),.int .gM]):=by
  show (if vL (n:Int) 1000000000000000000000000000000000000 then some (T.tup [.int ((n:Int).fdiv 1000000000000000000000000000000000000),.int ((n:Int).fmod 1000000000000000000000000000000000000)]) else none)=_
  rw [.al ⟨.e,Oy .e .e⟩,za9 _ .e,zaX _ .e]
  rfl
 have hs:lq [.int .gM]=some (tx (ds (n%10^36))):=oO (zaZ hr .c)
 have hz:Ms (tx (ds (n%10^36))) (.ak 36)=some (tx .aX):=by
  show (if PadOk 36=true then some (T.str (Txt.zfill (S (ds (n%10^36))) 36)) else none)=_
  rw [if_pos .c,FY (fM _) (zD _) (fG 35 _ hr)]
 have hl:us.length<sizeLine:=bX .d
 unfold OW
 rw [LL]
 generalize n%10^36=r at *
 generalize n/10^36=q at *
 generalize (List.replicate (36-(ds r).length) 48++ds r)=z at *
 clear h hr hu
 walk_at "ev"
theorem uJ {ft:FT}{fb:FS}{n:Nat}{τ τ1 τ2:az}(h1:ft τ=some (true,τ1))(h2:fb τ1=some (.nx τ2)):cP ft fb (n+1) τ=cP ft fb n τ2:=by
 rw [cP,h1,zaa,.e8,h2]
 rfl
theorem wj {n:Nat}(h:n<10^36)(us:List T)(o:.aN)(k:Nat):cP OX OW (k+1) [.e n,.t us,o]=some (.nx [.e n,.t us,o]):=
 uI (by rw [GQ,.eK]) .d
theorem Lr {n:Nat}(h:n<10^72):N4 [.int n]=some (tx (ds n)):=by
 have rest:∀(m:Nat) (us:List T) (o:.aN) (w:.D),m<10^36->us.length≤10->cU .d0 (.lst (us++[tx (ds m)]).reverse)=some (tx w) ->
   (aL (eY 1 (.d lq 0)) .dX) [.e m,.t us,o]=some (.rt (tx w)):=by
  intro m us o w hm hu P
  have hs:lq [.int m]=some (tx (ds m)):=oO (zaZ hm .c)
  have hl:us.length<sizeLine:=bX .d
  have Z:∀vs:List T,(jW 1 (dA .gv)) [.e m,.t vs,o]=some (.lst vs.reverse,[.e m,.t vs,o]):=fun _=>rfl
  generalize (jW 1 (dA .gv))=fr at *
  clear hu hm
  walk_at "ev"
 show ((aL (bN 1 ao) (aL (cP OX OW 3) (aL (eY 1 (.d lq 0)) .dX))) [.e n,none,none]).bind _=_
 have h0:bN 1 ao [.e n,none,none]=some (.nx [.e n,.dF,none]):=rfl
 by_cases h1:n<10^36
 ·have hr:=rest n [] none (ds n) h1 .f (by
   show cU .d0 (.lst [tx (ds n)])=_
   exact EY (zaz (fG 35 n h1) .e))
  have hw:=wj h1 [] none 2
  unfold aL at hr ⊢
  rw [h0,zaa]
  dsimp only
  rw [hw,zaa]
  dsimp only
  rw [hr]
  rfl
 ·have hq:n/10^36<10^36:=by
   rw [zbt .c]
   exact zau h .c
  have b:0<n/10^36:=Nat.div_pos .d .c
  have a:n%10^36<10^36:=za3 _ .c
  have he:ds n=ds (n/10^36)++(List.replicate (36-(ds (n%10^36)).length) 48++ds (n%10^36)):=by
   have:=GG 35 (n/10^36) (n%10^36) b a
   rw [Nat.mul_comm,zbB] at this
   exact this
  have c:=fG 35 _ hq
  have d:=fG 35 _ a
  have hb:=Mg n h [] .f none
  have hr:=rest (n/10^36) [tx .aX] (s (.ak .gM)) (ds n) hq .f (by
   show cU .d0 (.lst [tx (ds (n/10^36)),tx .aX])=_
   rw [he]
   refine EZ ?_
   rw [zaj,zbb]
   omega)
  have hw:cP OX OW 3 [.e n,.dF,none]=some (.nx [.e ((n/10^36:Nat):Int),.t ([]++[tx .aX]),.e .gM]):=by
   rw [uJ (by rw [GQ,decide_eq_true .d]) hb]
   exact wj hq _ _ 1
  unfold aL at hr ⊢
  rw [h0,zaa]
  dsimp only
  rw [hw,zaa]
  dsimp only
  rw [zaO,hr]
  rfl
noncomputable def gC (a:Int)(b:Nat):List Nat:=(if a<0 then [45] else [])++(ds a.natAbs++if b=1 then [] else 47::ds b)
abbrev zo (a:Int)(b:Nat):T:=.tup .hf
abbrev Oa:List T->Option T:=cy 3 1 (qG N4)
abbrev OJ:List T->Option T:=cy 1 1 jA
theorem LN {a:Int}{b:Nat}(ha:a.natAbs<10^72)(hb:b<10^72):Oa [zo a b]=some (tx (gC a b)):=by
 have h1:=Lr ha
 have h2:=Lr hb
 have c:=fG 71 _ ha
 have d:=fG 71 _ hb
 have M:=sR a
 have D:.au 0 (.ak a):=rfl
 have R:.au 1 (.ak b):=rfl
 have f:eO (.ak b) (.ak 1)=some (.au (b=1)):=by
  rw [il]
  congr 2
  exact .ed
 have l:G6 (.ak a) (.ak 0)=some (.au (a<0)):=rfl
 show ((aL (cj 1 (zk .hB .cU (fC .d0)))
  (aL (cj 2 (.f N4 (ai sQ (.a3 .af))))
  (aL (.bh (.c aU 1 2))
  (bo (.ac (.c aU 1 2) (.f N4 (.J 0 1))))))) [s (zo a b),none,none]).bind _=_
 rw [pK,yU,uB]
 have j:∃sg:List Nat,sg.length≤1/\(if a<0 then ([45]:List Nat) else [])=sg/\zk .hB (fC (.str (S [45]))) (fC (.str (S []))) [s (zo a b),none,none]=some (tx sg,[s (zo a b),none,none]):=by
  by_cases hn:a<0
  ·refine⟨[45],.e,if_pos hn,?_⟩
   rw [decide_eq_true hn] at l
   clear h1 h2 c d ha hb f
   walk_at "ev"
  ·refine⟨[],.e,if_neg hn,?_⟩
   rw [decide_eq_false hn] at l
   clear h1 h2 c d ha hb f
   walk_at "ev"
 obtain⟨sg,k,i,j⟩:=j
 unfold gC
 rw [i]
 have g1:aU (tx sg) (tx (ds a.natAbs))=some (tx (sg++ds a.natAbs)):=E5 .d
 have g2:aU (tx (sg++ds a.natAbs)) (tx [47])=some (tx .cf):=E5 .cz
 have g3:aU (tx .cf) (tx (ds b))=some (tx (.cf++ds b)):=E5 (by rw [List.length_append,List.length_append];simp;omega)
 generalize zk .hB (fC (.str (S [45]))) (fC (.str (S [])))=g at *
 generalize N4=n at *
 by_cases h:b=1
 ·rw [decide_eq_true h] at f
  rw [.jo,zaw]
  generalize ds a.natAbs=m at *
  generalize ds b=db at *
  clear h2 c d ha hb k i g2 g3 l h
  walk_at "ev"
 ·rw [decide_eq_false h] at f
  rw [if_neg h]
  rw [show sg++(ds a.natAbs++47::ds b)=.cf++ds b by simp]
  generalize ds a.natAbs=m at *
  generalize ds b=db at *
  clear c d ha hb k i l h
  walk_at "ev"
theorem GH {a:Int}(h:a.natAbs<10^100):lq [.int a]=some (tx ((if a<0 then [45] else [])++ds a.natAbs)):=by
 by_cases hn:a<0
 ·obtain⟨m,hm⟩:∃m:Nat,a = -((m+1:Nat):Int):=⟨a.natAbs-1,.d⟩
  rw [if_pos hn]
  subst hm
  rw [show (-((m+1:Nat):Int)).natAbs=m+1 by omega] at h ⊢
  show (if (-((m+1:Nat):Int)).natAbs.log2<1920 then some (T.str (Str.ofString (toString (-((m+1:Nat):Int))))) else none)=_
  rw [if_pos,K5]
  ·rfl
  ·rw [show (-((m+1:Nat):Int)).natAbs=m+1 by omega]
   exact (Nat.log2_lt .d).mpr (zaZ h .c)
 ·obtain⟨m,rfl⟩:=Int.eq_ofNat_of_zero_le (show 0≤a by omega)
  rw [if_neg hn]
  exact oO h
theorem QG {a:Int}{b:Nat}(ha:a.natAbs<10^72)(hb:b<10^72):OJ [zo a b]=some (tx (gC a b)):=by
 have h1:=GH (a:=a) (zaZ ha .c)
 have h2:=oO (zaZ hb (by decide +kernel:10^72<10^100))
 have c:=fG 71 _ ha
 have d:=fG 71 _ hb
 have D:.au 0 (.ak a):=rfl
 have R:.au 1 (.ak b):=rfl
 have f:eO (.ak b) (.ak 1)=some (.au (b=1)):=by
  rw [il]
  congr 2
  exact .ed
 have j:((if a<0 then [45] else []):List Nat).length≤1:=by split<;>simp
 unfold gC
 generalize (if a<0 then [45] else []:List Nat)=sg at *
 have g2:aU (tx (sg++ds a.natAbs)) (tx [47])=some (tx .cf):=E5 .cz
 have g3:aU (tx .cf) (tx (ds b))=some (tx (.cf++ds b)):=E5 (by rw [List.length_append,List.length_append];simp;omega)
 show ((aL (.bh (.f lq .af))
  (bo (.ac (.f lq .af) (.f lq (.J 0 1))))) [s (zo a b)]).bind _=_
 rw [uB]
 generalize lq=n at *
 by_cases h:b=1
 ·rw [decide_eq_true h] at f
  rw [.jo,zaw]
  generalize ds a.natAbs=m at *
  generalize ds b=db at *
  clear h2 c d ha hb j g2 g3 h
  walk_at "ev"
 ·rw [decide_eq_false h] at f
  rw [if_neg h]
  rw [show sg++(ds a.natAbs++47::ds b)=.cf++ds b by simp]
  generalize ds a.natAbs=m at *
  generalize ds b=db at *
  clear c d ha hb j h
  walk_at "ev"
abbrev QV:List T->Option T:=cy 1 1 sy
abbrev N6:List T->Option T:=cy 3 1 (jh QV mU)
theorem Hm (a:Int):QV [.int a]=some .bE:=.a
theorem Pe {a:Int}{b:Nat}(ha:a.natAbs<B)(hb:b<B):N6 [zo a b]=some (.bl (decide (1≤b)&&decide (Int.gcd a b=1))):=by
 have h1:=Hm a
 have h2:=Hm (b:Int)
 have M:=B9 (a:=a) (b:=(b:Int)) ha (by simpa using hb)
 have D:O1 (.ak b) (.ak 1)=some (.au (1≤b)):=by
  show some (.be ((1:Int)≤(b:Int)))=_
  congr 2
  exact .ed
 have R:eO (.ak .gd) (.ak 1)=some (.au (Int.gcd a b=1)):=by
  rw [il]
  congr 2
  exact .ed
 have e2:((2:Nat):Int)=2:=rfl
 unfold N6 cy jh
 generalize QV=E at *
 generalize mU=J at *
 generalize Int.gcd a b=g at *
 by_cases h:1≤b
 ·rw [decide_eq_true h] at D ⊢
  rw [zbp]
  clear ha hb h
  walk_at "ev"
 ·rw [decide_eq_false h] at D ⊢
  rw [Bool.false_and]
  clear ha hb h
  walk_at "ev"
open PySem PySem.Spec PyProof.Rows L2 TM Qm Rq
theorem Dj {a g:Int}(h:g∣a)(L:g≠0):(a.fdiv g).natAbs≤a.natAbs:=by
 obtain⟨x,rfl⟩:=h
 rw [Int.mul_fdiv_cancel_left x L,Int.natAbs_mul]
 exact Nat.le_mul_of_pos_left _ .d
theorem Dr {a b:Int}(h:0<b):Ml a b=.tup [.int (a.fdiv (Int.gcd a b)),.int (b.fdiv (Int.gcd a b))]:=by
 unfold Ml sg
 rw [if_neg .d]
def rS (q:Rat):T:=.tup [.int q.num,.int (q.den:Int)]
theorem Ds {a b:Int}(hb:0<b):Ml a b=rS (Rat.divInt a b):=by
 have hs:b.sign=1:=Int.sign_eq_one_of_pos hb
 have L:(Int.gcd b a:Int)=(Int.gcd a b:Int):=by rw [Int.gcd_comm]
 rw [Dr hb]
 unfold rS
 rw [Rat.num_divInt,Rat.den_divInt,if_neg .d,hs,Int.one_mul,L,za9 _ .d,za9 _ .d]
 congr 3
 rw [Int.natCast_ediv,Int.natAbs_of_nonneg .d,L]
abbrev O2:FG:=cu (.c 0 1)
theorem JN (x y:T)(u v:.aN)(ρ:az):O2 .iz (u::v::ρ)=some (fB x::fB y::ρ):=rfl
theorem iy {α:Type}{φ ψ:α->T}{fe:FE}{g:α->T}{ρ:az}(hr:bF ρ=true):∀(l:List α) (u v:.aN) (acc:List T),(∀x∈l,fe (fB (φ x)::fB (ψ x)::ρ)=some (g x,fB (φ x)::fB (ψ x)::ρ))->acc.length+l.length≤sizeLine ->
  dG O2 aO fe (l.map fun x=>.tup [φ x,ψ x]) (u::v::ρ) acc=some (acc++l.map g)
 |[],u,v,acc,_,_=>by simp [dG]
 |x::l,u,v,acc,h,hl=>by
  have i:.dd:=hl
  rw [zaf,dG,JN,zaa,show aO (fB (φ x)::fB (ψ x)::ρ)=some (true,fB (φ x)::fB (ψ x)::ρ) from rfl,zaa,if_pos rfl,h x zae,zaa,if_pos ⟨hr,.d⟩,
   iy hr l _ _ _ (fun z hz=>h z (.S hz)) .cz,List.map_cons,List.append_assoc]
  rfl
theorem uM {α c:Type}(φ:α->T)(ψ:c->T):∀(r:List α) (s:List c),iP (r.map φ) (s.map ψ)=(List.zip r s).map fun p=>.tup [φ p.1,ψ p.2]
 |[],s=>by simp [iP]
 |x::r,[]=>by simp [iP]
 |x::r,y::s=>by simp [iP,uM φ ψ r s]
theorem CG:∀(n:Nat) (lo:Int),TM.upTo lo n=(List.range n).map fun (i:Nat)=>T.int (lo+i):=by
 intro n lo
 apply List.ext_getElem?
 intro i
 by_cases h:i<n
 ·rw [uG n lo i h,zaI,zbC h];rfl
 ·rw [List.getElem?_eq_none (by rw [je];omega),List.getElem?_eq_none .i]
theorem Be (n:Nat):TM.upTo 0 n=(List.range n).map fun (i:Nat)=>T.int i:=by
 rw [CG]
 congr 1
 funext i
 congr 1
 omega
theorem bY {no:Nat}{cap:.D}{g:FA}{fg:FG}{ft:FT}{fe:FE}{τ:az}{ts us:List T}(h1:g τ=some (ts,τ))(h2:frzAll cap τ=τ)(M:bF (.bc τ)=true)(D:dG fg ft fe ts (.bc τ) []=some us):bf no cap g fg ft fe τ=some (.lst us,τ):=by
 unfold bf
 rw [h1,zaa]
 dsimp only
 rw [h2,if_pos M,D]
 rfl
theorem eh {fg:FG}{fb:FS}{t:T}{ts:List T}{τ τ1 τ2:az}(h1:fg t τ=some τ1)(h2:fb τ1=some (.nx τ2)):dk fg fb (t::ts) τ=dk fg fb ts τ2:=by
 rw [dk,h1,zaa,h2]
 rfl
theorem AV {f:FE}{τ:az}{n:Int}(h:f τ=some (.int n,τ))(h0:0≤n)(h1:n≤1000):dm (.a3 f) τ=some (TM.upTo 0 n.toNat,τ):=by
 unfold dm ag ao
 rw [h]
 show (if _ then _ else _)=_
 rw [if_pos .d]
theorem mV {f:FE}{τ:az}{n:Nat}(h:f τ=some (.int n,τ))(h1:n≤1000):dm (.a3 f) τ=some ((List.range n).map fun (i:Nat)=>T.int i,τ):=by
 have e:=AV h .d .d
 rw [zaQ,Be] at e
 exact e
theorem aA {g:.Y}{f:FA}{ρ:az}{t:T}(ts:List T)(h1:f ρ=some (ts,ρ))(h2:g ts=some t):ai g f ρ=some (t,ρ):=by
 unfold ai
 rw [h1,zaa]
 dsimp only
 rw [h2]
 rfl
theorem aW {t u:FS}{τ τ':az}(h:t τ=some (.nx τ')):aL t u τ=u τ':=by
 unfold aL
 rw [h]
 rfl
theorem bE {f:FE}{τ:az}{t:T}(h:.fH):ag f ao τ=some ([t],τ):=by
 unfold ag
 rw [h]
 rfl
theorem cT {f g:FE}{τ:az}{t u:T}(h:.fH)(h':g τ=some (u,τ)):ag f (.a3 g) τ=some ([t,u],τ):=by
 unfold ag
 rw [h,zaa]
 dsimp only
 rw [h']
 rfl
theorem lW {g:FA}{fg:FG}{fb:FS}{τ:az}{ts:List T}{r:R}(h1:g τ=some (ts,τ))(h2:dk fg fb ts τ=some r):gU g fg fb τ=some r:=by
 unfold gU
 rw [h1,zaa]
 exact h2
theorem cv {f:FE}{τ τ':az}{t:T}(h:f τ=some (t,τ')):bo f τ=some (.rt t):=by
 unfold bo
 rw [h]
 rfl
theorem EA {f g i:FE}{τ:az}{t u v:T}(h:.fH)(h':g τ=some (u,τ))(a:i τ=some (v,τ)):ag f (.a g i) τ=some ([t,u,v],τ):=by
 have e:=cT h' a
 generalize L:ag g (.a3 i)=G at *
 unfold ag
 rw [h,zaa]
 dsimp only
 rw [e]
 rfl
theorem dv {i:Nat}{f:FE}{τ τ1 τ2:az}{t:T}(h:f τ=some (t,τ1))(h2:cj i (fC t) τ1=some (.nx τ2)):cj i f τ=some (.nx τ2):=by
 unfold cj at *
 rw [h]
 exact h2
theorem cw {m n:Nat}{fb:FS}{ts:List T}{t:T}(hl:ts.length=n)(h:fb (.y (m-n))=some (.rt t)):cy m n fb ts=some t:=by
 unfold cy
 rw [if_pos hl,h]
 rfl
theorem yY {i:Nat}{τ:az}{t:T}(h:τ[i]? = some (fB t)):ae i τ=some (t,τ):=by unfold ae;rw [h]
theorem oH {i:Nat}{f:FE}{τ:az}{ts:List T}{t:T}(h:τ[i]? = some (.n ts))(hf:.fH)(hl:ts.length<sizeLine):eY i f τ=some (.nx (.bb (.n (ts++[t])))):=by
 unfold eY
 rw [h]
 dsimp only
 rw [hf,zaa]
 dsimp only
 rw [h]
 dsimp only
 rw [if_pos hl]
theorem L5 {f:FE}{g:FA}{τ τ1 τ2:az}{t:T}{ts:List T}(h1:f τ=some (t,τ1))(h2:g τ1=some (ts,τ2)):ag f g τ=some (t::ts,τ2):=by
 unfold ag
 rw [h1,zaa,h2]
 rfl
theorem Si {f g:FE}{τ:az}{a b:Nat}(h1:f τ=some (bj a,τ))(h2:g τ=some (bj b,τ)):bR (ar G6 f g) τ=some (decide (a<b),τ):=by
 unfold bR ar
 rw [h1,zaa]
 dsimp only
 rw [h2,zaa]
 show some (decide ((a:Int)<(b:Int)),τ)=_
 congr 2
 simp only [Int.ofNat_lt]
theorem wc {N d:Int}(hd:¬ d=0)(bd:d.natAbs<B):iA (.ak N) (.ak d)=some (.ak (N.fdiv d)):=.al ⟨hd,bd⟩
theorem Ar {a b:Int}(h1:a.natAbs<B)(h2:b.natAbs<B):gL (.ak a) (.ak b)=some (.ak (a*b)):=.al ⟨h1,h2⟩
theorem nD {N d:Int}(hd:¬ d=0):dB (.ak N) (.ak d)=some (.ak (N.fmod d)):=if_pos hd
theorem cZ {c:FT}{s:FS}{τ τ':az}(h:c τ=some .jB):cG c s bK τ=some (.nx τ'):=by
 unfold cG
 rw [h]
 rfl
theorem Fs {C:Addr}{d:.fb}{g:FA}{τ τ':az}{ts:List T}{r:uN}(h1:g τ=some .ib)(h2:d ts=some r):oQ C d g τ=some (.obj C r.1 r.2,τ'):=by
 unfold oQ
 rw [h1,zaa]
 dsimp only
 rw [h2]
 rfl
theorem kf {alts:List .aE}{m:Str}{fo:FE}{g:FA}{τ τ1 τ2:az}{C:Addr}{ns:.U}{ts i:List T}{d:.Y}{t:T}(h:fo τ=some (.obj C ns ts,τ1))(hm:¬ m∈ns)(hf:ny C alts=some d)(L:g τ1=some (i,τ2))(hd:d (.obj C ns ts::i)=some t):cR alts m fo g τ=some (t,τ2):=by
 unfold cR
 rw [h,zaa]
 dsimp only
 rw [if_neg hm,hf,zaa,L,zaa]
 dsimp only
 rw [hd]
 rfl
theorem RW {f g i l:FE}{τ:az}{t u v x:T}(h1:.fH)(h2:g τ=some (u,τ))(M:i τ=some (v,τ))(D:l τ=some (x,τ)):ag f (ag g (.a i l)) τ=some ([t,u,v,x],τ):=L5 h1 (EA h2 M D)
theorem mf {f:FA}{τ τ':az}{ts:List T}(h:f τ=some .ib)(hl:ts.length≤1000):eI f τ=some (.lst ts,τ'):=by
 unfold eI
 rw [h,zaa]
 exact .al (aQ hl)
theorem Bu {fa fb:FE}{τ τ':az}(h:fa τ=some (.iG,τ')):iz fa fb τ=fb τ':=by
 unfold iz
 rw [h]
 rfl
theorem DK (ts:List T):bJ [.lst ts]=some (.ak (ts.length:Nat)):=rfl
theorem GI (a b:Nat):eO (bj a) (bj b)=some (.au (a=b)):=by
 rw [il]
 exact congrArg (fun z=>some (T.bl z)) (decide_eq_decide.mpr .d)
theorem ja {c1 c2:FT}{τ τ' a:az}(h1:c1 τ=some .jB)(h2:c2 τ'=some (false,a)):uO c1 c2 τ=some (false,a):=by
 unfold uO
 rw [h1,zaa]
 exact (if_neg zaL).trans h2
theorem C1 {a b c:Int}{fb fc:FE}{τ:az}(hb:fb τ=some (.int b,τ))(U:fc τ=some (.int c,τ))(h1:a≤b)(h2:b≤c):gT uU uU (fC (.ak a)) fb fc τ=some (.iG,τ):=by
 unfold gT
 rw [show fC (.ak a) τ=some (.int a,τ) from rfl,zaa,hb,zaa]
 rw [show uU (.ak a) (.ak b)=some (.au (a≤b)) from rfl,decide_eq_true h1,zaa]
 dsimp only
 rw [U,zaa,show uU (.ak b) (.ak c)=some (.au (b≤c)) from rfl,decide_eq_true h2]
 rfl
theorem Lp {m n:Nat}{fb:FS}{ts:List T}{τ:az}(hl:ts.length=n)(h:fb (.y (m-n))=some (.nx τ)):cy m n fb ts=some .non:=by
 unfold cy
 rw [if_pos hl,h]
 rfl
theorem fH {f:Str}{fe:FE}{c:.iH}{x:Addr}{τ:az}{ns:.U}{us:List T}{t:T}(h:fe τ=some (t,τ))(ha:bF τ=true)(hn:¬ f∈ns/\ns.length<999)(h0:τ[0]? = some (fB (.ptr x))):lr f fe c x τ ns us=c x τ (ns++[f]) (us++[t]):=by
 unfold lr
 rw [h,zaa]
 dsimp only
 rw [.al ⟨ha,hn⟩,h0]
 exact .e8
def kR (l:.D):Prop:=∀c∈l,c<128
theorem SU {l:.D}(h:kR l):PyData.strOk (S l)=true:=by
 unfold PyData.strOk
 simp [S]
 exact fun x hx=>zaZ (h x hx) .e
theorem qw {l:.D}(h:kR l):SeqAt.shaped (.str (S l))=true:=by simp [SeqAt.shaped,PyData.canLay0,PyData.depth,SU h]
theorem LX {a b:.D}:(S a=S b) ↔ a=b:=⟨vN,fun h=>by rw [h]⟩
theorem xB {a b:.D}(ha:kR a)(hb:kR b):eO (tx a) (tx b)=some (.au (a=b)):=by
 show zN false (.str (S a)) (.str (S b))=_
 have e:(S a == S b)=decide (a=b):=by rw [zbD,beq_iff_eq,decide_eq_true_eq,LX]
 simp [zN,rY,PyData.eqv,qw ha,qw hb,e]
theorem Mr {a b:.D}(ha:kR a)(hb:kR b):jM (tx a) (tx b)=some (.bl (!decide (a=b))):=by
 show zN true (.str (S a)) (.str (S b))=_
 have e:(S a == S b)=decide (a=b):=by rw [zbD,beq_iff_eq,decide_eq_true_eq,LX]
 simp [zN,rY,PyData.eqv,qw ha,qw hb,e]
abbrev BC:List T->Option T:=cy 2 2 iQ
theorem oP (ns:.e5)(k:Nat):BC [.scr .id,bj k]=some (.ak (ns.getD k 0)):=by
 have hl:ai bJ (bH 0) .d8=some (.int (ns.length:Nat),.d8):=aA [.scr .id] .aR (by
  show some (T.int ((ns.map T.int).length:Nat))=_
  rw [zah])
 have Y:=Si (f:=ae 1) (g:=ai bJ (bH 0)) (τ:=.d8) (a:=k) (b:=ns.length) rfl hl
 refine .es
 show iQ .d8=_
 unfold iQ
 by_cases h:k<ns.length
 ·have e:=JZ (ns:=ns) (k:=(k:Nat)) .d .d
  rw [zaQ] at e
  unfold aL cG
  rw [Y,zaa]
  dsimp only
  rw [.al (decide_eq_true h),cv (aS (g:=bI) (f1:=ae 0) (f2:=ae 1) rfl rfl e)]
  rfl
 ·rw [.a9 (by rw [Y,decide_eq_false h])]
  rw [zaD,List.getElem?_eq_none .d]
  rfl
abbrev nt (l:.D):T:=.lst (l.map fun d=>bj d)
def Below:List Nat->List Nat->Prop
 |[],[]=>True
 |d::ds,b::bs=>d<b/\Below ds bs
 |_,_=>False
def Le (bs:.D):Prop:=∀b∈bs,0<b/\b<B
theorem Below.len:∀{ds bs:.D},Below ds bs->ds.length=bs.length
 |[],[],_=>rfl
 |_::ds,_::bs,h=>by rw [zap,zap,Below.len h.2]
 |[],_::_,h=>h.elim
 |_::_,[],h=>h.elim
theorem lV (c:Int){b:Nat}(h:0<b):∃d:Nat,c.fmod (b:Int)=(d:Nat)/\d<b:=by
 have hb:(0:Int)<(b:Int):=.d
 have h0:=Int.fmod_nonneg_of_pos c hb
 have h1:=Int.fmod_lt_of_pos c hb
 exact⟨(c.fmod (b:Int)).toNat,.d,.d⟩
abbrev QS:List T->Option T:=cy 5 2 gF
def Q3:FS:=aL (eY 2 (.c dB 3 4)) (cj 3 (.c iA 3 4))
theorem C8 (c:Int)(L:T):∀(bs:.D) (l:Int) (ts:List T) (u:.aN),Le bs->ts.length+bs.length≤1000->∃(ds:.D) (f:Int) (g:.aN),dk (ah 4) Q3 (bs.map fun b=>bj b) [.e c,s L,.t ts,.e l,u]
  = some (.nx [.e c,s L,.t (ts++ds.map fun d=>bj d),.e f,g])/\Below ds bs
 |[],l,ts,u,_,_=>⟨[],l,u,by simp [dk],trivial⟩
 |b::bs,l,ts,u,hb,hl=>by
  have h0:=hb b zae
  obtain⟨d,e1,e2⟩:=lV l h0.1
  obtain⟨ds,f,g,h1,h2⟩:=C8 c L bs (l.fdiv b) (ts++[bj d]) (s (bj b)) (fun x hx=>hb x (.S hx)) (by rw [List.length_append];simp at hl ⊢;omega)
  refine⟨d::ds,f,g,?_,e2,h2⟩
  have hz:ts.length<sizeLine:=bX (by simp at hl;omega)
  have m:dB (.ak l) (bj b)=some (bj d):=by rw [nD .d,e1]
  have q:iA (.ak l) (bj b)=some (.ak (l.fdiv b)):=wc .d (by simpa using h0.2)
  have hB:Q3 [.e c,s L,.t ts,.e l,.m b]=some (.nx [.e c,s L,.t (ts++[bj d]),.e (l.fdiv b),.m b]):=by
   unfold Q3
   rw [aW (oH (ts:=ts) (t:=bj d) rfl (.M m) hz)]
   exact dv (.M q) rfl
  rw [zaf,eh rfl hB,h1]
  simp
theorem EO (c:Int){bs:.D}(hb:Le bs)(hl:bs.length≤1000):∃ds:List Nat,QS [.int c,nt bs]=some (nt ds)/\Below ds bs:=by
 obtain⟨ds,f,g,h1,h2⟩:=C8 c (nt bs) bs c [] none hb (by simpa using hl)
 refine⟨ds,cw rfl ?_,h2⟩
 show gF [.e c,s (nt bs),none,none,none]=_
 have e:gF=aL (bN 2 ao) (aL (cj 3 (ae 0)) (aL (gU (.am 1) (ah 4) Q3) (bo (ae 2)))):=rfl
 rw [e,aW (show bN 2 ao [.e c,s (nt bs),none,none,none]=some (.nx [.e c,s (nt bs),.dF,none,none]) from rfl),aW (show cj 3 (ae 0) [.e c,s (nt bs),.dF,none,none]=some (.nx [.e c,s (nt bs),.dF,.e c,none]) from rfl),aW (lW rfl h1)]
 rfl
abbrev OF:List T->Option T:=cy 5 2 ib
noncomputable def Rm:FS:=(aL (cj 3 (ar dB .dg (aH 2147483647)))
  (eY 2 (ar iA (ar dB (ar gL (ae 3) (ae 3)) (aH 2147483587)) (aH 3))))
theorem DN (c n:Int):∀(ks:.D) (l:Int) (ts:List T) (u:.aN),(∀k∈ks,k≤1000)->(0≤l/\l<2147483647)->ts.length+ks.length≤1000->∃(d:.e5) (f:Int) (g:.aN),dk (ah 4) Rm (ks.map fun k=>bj k) [.e c,.e n,.t ts,.e l,u]
  = some (.nx [.e c,.e n,.t (ts++d.map T.int),.e f,g])/\d.length=ks.length
 |[],l,ts,u,_,_,_=>⟨[],l,u,by simp [dk],rfl⟩
 |k::ks,l,ts,u,hk,h0,hl=>by
  have a:=hk k zae
  have r:=qX
  have r1:=zK (l*48271+7919*(k:Int)+1) (b:=2147483647) .e
  have e1:ar dB .dg (aH 2147483647) .jt=some (.int ((l*48271+7919*(k:Int)+1).fmod 2147483647),.jt):=
   aS (aS (aS (.M (Ar .d .d)) (.M (Ar .d .d)) fV) rfl fV) rfl (nD .e)
  generalize (l*48271+7919*(k:Int)+1).fmod 2147483647=l1 at *
  obtain⟨d,f,g,h1,h2⟩:=DN c n ks l1 (ts++[.int (((l1*l1).fmod 2147483587).fdiv 3)]) .b3 (fun x hx=>hk x (.S hx)) r1 (by rw [List.length_append];simp at hl ⊢;omega)
  refine⟨((l1*l1).fmod 2147483587).fdiv 3::d,f,g,?_,by simp [h2]⟩
  have hz:ts.length<sizeLine:=bX (by simp at hl;omega)
  have hB:Rm .jt=some (.nx [.e c,.e n,.t (ts++[.int (((l1*l1).fmod 2147483587).fdiv 3)]),.e l1,.m k]):=by
   unfold Rm
   rw [aW (dv e1 rfl)]
   exact oH (ts:=ts) rfl (aS (aS (.M (Ar .d .d)) rfl (nD .e)) rfl (wc .e .d)) hz
  rw [zaf,eh rfl hB,h1]
  simp
theorem GK (c:Int)(n:Nat)(hn:n≤900):∃d:List Int,OF [.int c,bj n]=some (.lst (d.map T.int))/\d.length=n:=by
 have i:=zK c (b:=2147483629) .e
 obtain⟨d,f,g,h1,h2⟩:=DN c (n:Nat) (List.range n) (c.fmod 2147483629+17) [] none (fun k hk=>by have:=List.mem_range.mp hk;omega) .d .i
 refine⟨d,cw rfl ?_,by rw [h2,za6]⟩
 show ib [.e c,.m n,none,none,none]=_
 have e:ib=aL (bN 2 ao) (aL (cj 3 (ar aU (.a dB 0 2147483629) (aH 17))) (aL (gU (dm (bH 1)) (ah 4) Rm) (bo (ae 2)))):=rfl
 rw [e,aW (show bN 2 ao [.e c,.m n,none,none,none]=some (.nx [.e c,.m n,.dF,none,none]) from rfl),aW (dv (τ1:=[.e c,.m n,.dF,none,none]) (τ2:=[.e c,.m n,.dF,.e (c.fmod 2147483629+17),none]) (aS (.M (nD .e)) rfl fV) rfl),aW (lW (mV rfl .d) h1)]
 rfl
abbrev vZ:List T->Option T:=cy 2 2 (ia QS OF)
theorem w4 (f:Int->Nat->Nat)(hf:∀m b,0<b->f m b<b):∀(d:.e5) (bs:.D),d.length=bs.length->Le bs->Below ((List.zip d bs).map fun p=>f p.1 p.2) bs
 |[],[],_,_=>trivial
 |m::d,b::bs,h,hb=>⟨hf m b (hb b List.mem_cons_self).1,w4 f hf d bs .au fun x hx=>hb x (.S hx)⟩
 |[],_::_,h,_=>by cases h
 |_::_,[],h,_=>by cases h
theorem lR (c:Int){bs:.D}(hb:Le bs)(hl:bs.length≤900):∃ds:List Nat,vZ [.int c,nt bs]=some (nt ds)/\Below ds bs:=by
 have hlen:bJ [nt bs]=some (.ak (bs.length:Nat)):=by
  show some (T.int ((bs.map _).length:Nat))=_
  rw [zah]
 have h2:ar eO (.a dB 0 2) (aH 1) .dN=some (.bl (decide (c.fmod 2=1)),.dN):=aS (.M (nD .e)) rfl (il _ _)
 have hd:ar iA (ae 0) (aH 2) .dN=some (.int (c.fdiv 2),.dN):=aS rfl rfl (wc .e (by have:=qX;omega))
 have U:∃ds:List Nat,ia QS OF .dN=some (.rt (nt ds))/\Below ds bs:=by
  unfold ia
  by_cases h:c.fmod 2=1
  ·obtain⟨ds,e1,e2⟩:=EO (c.fdiv 2) hb .d
   refine⟨ds,?_,e2⟩
   unfold aL cG
   rw [show bR (ar eO (.a dB 0 2) (aH 1)) .dN=some (decide (c.fmod 2=1),.dN) by unfold bR;rw [h2];rfl,Option.bind_some]
   dsimp only
   rw [.al (decide_eq_true h),cv (aA _ (cT hd rfl) e1)]
   rfl
  ·obtain⟨ms,e1,e2⟩:=GK (c.fdiv 2) bs.length hl
   refine⟨(List.zip ms bs).map fun p=>(p.1.fmod (p.2:Int)).toNat,?_,w4 (fun m b=>(m.fmod (b:Int)).toNat) (fun m b hb=>by
    obtain⟨d,q1,q2⟩:=lV m hb
    show (m.fmod (b:Int)).toNat<b
    omega) ms bs e2 hb⟩
   rw [.a9 (by show bR _ _=_;unfold bR;rw [h2];show some (decide (c.fmod 2=1),_)=_;rw [decide_eq_false h])]
   refine cv (bY (ts:=(List.zip ms bs).map fun p=>.tup [.int p.1,.int (p.2:Nat)]) ?_ rfl rfl ?_)
   ·have g1:ag (ai OF (.a (.a iA 0 2) (.d bJ 1))) (bH 1) .dN=some ([.lst (ms.map T.int),nt bs],.dN):=cT (aA _ (cT hd (.ae hlen)) e1) rfl
    unfold lU
    rw [g1,zaa]
    show some (iP (ms.map T.int) (bs.map fun d=>bj d),_)=_
    rw [uM]
   ·rw [show (List.map (fun d=>bj d) (List.map (fun p:Int×Nat=>(p.1.fmod (p.2:Int)).toNat) (List.zip ms bs)))=[]++(List.zip ms bs).map (fun p=>T.int (((p.1.fmod (p.2:Int)).toNat:Nat):Int)) by simp]
    refine iy (φ:=fun p:Int×Nat=>T.int p.1) (ψ:=fun p=>T.int (p.2:Nat)) rfl _ _ _ _ (fun p hp=>?_) (by rw [List.length_nil,Nat.zero_add,List.length_zip];exact aQ .d)
    have j:=hb p.2 (zby hp).2
    obtain⟨d,q1,q2⟩:=lV p.1 j.1
    refine aS rfl rfl ?_
    rw [nD .d,q1]
    rfl
 obtain⟨ds,e1,e2⟩:=U
 exact⟨ds,cw rfl e1,e2⟩
theorem pE:∀ls:List .br,strsOf .ci=some .h3
 |[]=>rfl
 |l::ls=>by
  show (strsOf .ci).bind _=_
  rw [pE ls]
  rfl
theorem BA (l:.D):cs (S l)=l:=dJ l
theorem HB (ls:.H):(ls.map S).map cs=ls:=by rw [zay,show cs ∘ S=id from funext BA,List.map_id]
theorem B7 (c:Nat)(ls:.H):Txt.join (S [c]) .h3=S .jx:=by
 refine BB ?_
 rw [show S [c]=one c from rfl,Bd,rJ,HB,BA]
theorem wx:∀ls:List .br,cs ((S []).join .h3)=ls.flatten
 |[]=>rfl
 |[p]=>by
  rw [zaf,List.map_nil,Str.join.eq_2,BA,zaR,List.flatten_nil,zaw]
 |p::q::r=>by
  have A:=wx (q::r)
  rw [zaf] at A
  rw [zaf,zaf,Str.join.eq_3 _ _ _ (fun h=>by cases h),xj,xj,A,BA,BA]
  simp
theorem MB (ls:.H):Txt.join (S []) .h3=S ls.flatten:=by
 refine BB ?_
 show cs (Builtin.Str.glued (S []) .h3)=_
 rw [StrLaws.glued_eq_join,wx,BA]
def oB (ls:.H):Nat:=(ls.map (·.length)).sum
theorem Cy (ls:.H):((ls.map S).map (·.length)).sum=oB ls:=by
 unfold oB
 rw [zay]
 congr 1
theorem pF {m:Nat}:∀{ls:.H},(∀l∈ls,l.length≤m)->oB ls≤ls.length*m
 |[],_=>zaU _
 |l::ls,h=>by
  have:=pF (ls:=ls) fun x hx=>h x (zad _ hx)
  have h1:=h l zae
  unfold oB at this ⊢
  rw [zaf,List.sum_cons,zap,Nat.succ_mul]
  omega
theorem Hr (c:Nat){ls:.H}(h:oB ls+ls.length≤16777216):cU (tx [c]) (.lst .ci)=some (tx .jx):=by
 show (strsOf .ci).bind _=_
 rw [pE,Option.bind_some,Cy,List.length_map,cm,if_pos .au,B7]
theorem MA (c:Nat){ls:.H}(h:oB ls+ls.length≤16777216):cU (tx [c]) (.tup .ci)=some (tx .jx):=by
 show (strsOf .ci).bind _=_
 rw [pE,Option.bind_some,Cy,List.length_map,cm,if_pos .au,B7]
theorem DE {ls:.H}(h:oB ls≤16777216):cU .d0 (.lst .ci)=some (tx ls.flatten):=by
 show (strsOf .ci).bind _=_
 rw [pE,Option.bind_some,Cy,List.length_map,yU,cm,if_pos .au,MB]
def qV (l:.D):Prop:=l≠[]/\l.length≤8/\∀c∈l,97≤c/\c≤122
theorem qV.asc {l:.D}(h:qV l):kR l:=fun c U=>by have:=h.2.2 c U;omega
theorem J3:(Str.ofString "abcdefghijklmnopqrstuvwxyz").length=26:=.c
theorem Pq:Str.ofString "abcdefghijklmnopqrstuvwxyz" = S ((List.range 26).map (97+·)):=.c
theorem MH {i:Nat}(h:i<26):bI .x (bj i)=some (tx [97+i]):=by
 show (if (Str.ofString "abcdefghijklmnopqrstuvwxyz").length≤sizeLine then _ else none)=_
 rw [.al (by rw [J3];exact aQ .e),Pq,dJ,rG (v:=97+i) (by rw [zaI,zbC h];rfl)]
 rfl
theorem zI (f:Nat->Nat):∀l:List Nat,(l.map fun j=>[f j]).flatten=l.map f
 |[]=>rfl
 |a::l=>by rw [zaf,zaR,zI f l];rfl
theorem Below.get:∀{ds bs:.D} {i:Nat},Below ds bs->i<bs.length->ds.getD i 0<bs.getD i 0
 |[],[],_,_,h=>by cases h
 |d::ds,b::bs,0,h,_=>h.1
 |d::ds,b::bs,i+1,h,hi=>by
  have:=Below.get (i:=i) h.2 .dA
  simpa using this
 |[],_::_,_,h,_=>h.elim
 |_::_,[],_,h,_=>h.elim
theorem DP {l:.D}{i:Nat}(h:i<l.length):bI (nt l) (bj i)=some (.ak (l.getD i 0:Nat)):=by
 show zj (l.map fun d=>bj d) (i:Int)=_
 rw [rG (v:=.int (l.getD i 0:Nat)) (by rw [zaI,zav h,zaD,zav h];rfl)]
noncomputable def tR (tail:.D)(sz a k:Nat):List Nat:=(List.range sz).map fun j=>97+(tail.getD j 0+k*(if j=a then 1 else 0))%26
theorem HM {tail:.D}{sz a k:Nat}(h0:0<sz)(y:sz≤8):qV .iO:=by
 unfold tR
 refine⟨fun e=>?_,by simpa using y,fun c U=>?_⟩
 ·have:=congrArg List.length e
  simp at this
  omega
 ·obtain⟨j,_,rfl⟩:=zai.mp U
  have:=za3 (tail.getD j 0+k*(if j=a then 1 else 0)) (show 0<26 by decide)
  omega
theorem HL {tail:.D}{sz a i j:Nat}(ha:a<sz)(hi:i<26)(P:j<26)(h:tR tail sz a i=tR tail sz a j):i=j:=by
 have e:=congrArg (fun l:List Nat=>l[a]?) h
 unfold tR at e
 simp [List.getElem?_range ha] at e
 omega
def Rn:FS:=(aL (dU 8 1 [2,5,7,4] (dm (bH 3)) (ah 0) aO .aV)
  (eY 6 (ar cU (fC .d0) (ae 8))))
noncomputable abbrev HK (c n:Int)(sz a:Nat)(tail:.D)(ts:List T)(B i:.aN):az:=[.e c,.e n,s .x,.m sz,.m a,s (nt tail),.t ts,B,i]
theorem Ka (c n:Int){sz a k:Nat}{tail:.D}(y:sz≤8)(Y:tail.length=sz)(hk:k≤100)(ts:List T)(i:.aN)(hl:ts.length<1000):
  ∃us,Rn (.bg i)=some (.nx (HK c n sz a tail (ts++[tx .iO]) .b3 (fB .e2))):=by
 have hz:ts.length<sizeLine:=bX .d
 have U:dG (ah 0) aO .aV ((List.range sz).map fun (j:Nat)=>T.int j) .eD []=some ([]++(List.range sz).map fun j=>tx .bF):=by
  refine cJ rfl _ _ _ (fun j P=>?_) .ay
  have P:=zaT.mp P
  have e1:ar bI (ae 2) (ae 0) .eF=some (.int (tail.getD j 0:Nat),.eF):=aS rfl rfl (DP .d)
  have e2:ai fU (.a3 (.c eO 0 4)) .eF=some (.int ((if j=a then 1 else 0:Nat):Int),.eF):=by
   refine aA [.bl (decide (j=a))] (bE (aS rfl rfl (by rw [il];congr 2;exact decide_eq_decide.mpr .d))) ?_
   by_cases h:j=a
   ·rw [.jo,decide_eq_true h];rfl
   ·rw [if_neg h,decide_eq_false h];rfl
  have hq:(if j=a then 1 else 0:Nat)≤1:=by split<;>omega
  generalize (if j=a then 1 else 0:Nat)=q at *
  have r:=qX
  refine aS rfl (aS (aS e1 (aS rfl e2 (Ar .d .d)) fV) rfl (nD .e)) ?_
  have e3:((tail.getD j 0:Nat):Int)+(k:Int)*(q:Int)=((tail.getD j 0+k*q:Nat):Int):=.f
  rw [e3,show ((tail.getD j 0+k*q:Nat):Int).fmod 26=(((tail.getD j 0+k*q)%26:Nat):Int) by rw [zaX _ .e];rfl]
  exact MH (za3 _ .e)
 refine⟨(List.range sz).map fun j=>tx .bF,?_⟩
 have P:cU .d0 (.lst ((List.range sz).map fun j=>tx .bF))=some (tx .iO):=by
  have:=DE (ls:=(List.range sz).map fun j=>[97+(tail.getD j 0+k*(if j=a then 1 else 0))%26]) (by
   refine Nat.le_trans (pF (m:=1) fun l hl=>?_) .i
   obtain⟨j,_,rfl⟩:=zai.mp hl
   exact zam _)
  rw [zay,zI (fun j=>97+(tail.getD j 0+k*(if j=a then 1 else 0))%26)] at this
  exact this
 have hr:dm (bH 3) (.bg i)=some ((List.range sz).map fun (j:Nat)=>T.int j,HK c n sz a tail ts .b3 i):=mV rfl .d
 have h1:dU 8 1 [2,5,7,4] (dm (bH 3)) (ah 0) aO .aV (.bg i)
   = some (.nx (.bg (.n ((List.range sz).map fun j=>tx .bF)))):=by
  unfold dU
  rw [hr,zaa]
  show (if bF .eD=true then (dG _ _ _ _ .eD []).bind _ else none)=_
  rw [if_pos (show bF .eD=true from rfl)]
  dsimp only
  rw [U]
  rfl
 unfold Rn
 rw [aW h1]
 generalize (List.range sz).map (fun j=>tx .bF)=us at *
 generalize tR tail sz a k=z at *
 clear U hr h1
 unfold eY ar fC
 show ((((some (T.lst us,HK c n sz a tail ts .b3 (fB .e2)):Option (T×az)).bind fun q=>(cU .d0 q.1).bind fun t=>some (t,q.2))).bind _)=_
 rw [zaa]
 dsimp only
 rw [P]
 show (if ts.length<sizeLine then _ else none)=_
 rw [if_pos hz]
 rfl
theorem DO (c n:Int){sz a:Nat}{tail:.D}(y:sz≤8)(Y:tail.length=sz):∀(ks:.D) (ts:List T) (B i:.aN),(∀k∈ks,k≤100)->ts.length+ks.length≤900->∃H d,dk (ah 7) Rn (ks.map fun k=>bj k) (HK c n sz a tail ts B i)=some (.nx (HK c n sz a tail (ts++ks.map fun k=>tx .iO) H d))
 |[],ts,B,i,_,_=>⟨B,i,by simp [dk]⟩
 |k::ks,ts,B,i,hk,hl=>by
  rw [zap] at hl
  obtain⟨us,h1⟩:=Ka c n y Y (hk k zae) ts i .d
  obtain⟨H,d,h2⟩:=DO c n y Y ks (ts++[tx .iO]) .b3 (fB .e2) (fun x hx=>hk x (zad _ hx)) .b4
  refine⟨H,d,?_⟩
  rw [zaf,eh (τ1:=HK c n sz a tail ts .b3 i) rfl h1,h2]
  simp
theorem Du {ts:List T}{k:Int}(h1 : -(2^63)≤k)(h2:k<2^63)(M:ts.length*k.toNat≤sizeLine):xD .dH (.ak k)=some (.aw ts):=.al ⟨⟨h1,h2⟩,M⟩
abbrev Lo:List T->Option T:=cy 9 2 (ic vZ)
theorem C0 {n b:Nat}(h0:0<b)(hb:b<B):Le (List.replicate n b):=fun x hx=>by rw [List.eq_of_mem_replicate hx];exact⟨h0,hb⟩
theorem HQ (n b:Nat):(T.lst (List.replicate n [bj b]).flatten)=nt (List.replicate n b):=by
 congr 1
 induction n with
 |zero=>rfl
 |succ n A=>rw [zaH,zaH,zaR,zaf,A];rfl
theorem GL (c:Int){n:Nat}(hn:n≤26):∃nm:Nat->List Nat,Lo [.int c,bj n]=some (.lst ((List.range n).map fun k=>tx (nm k)))/\(∀k,qV (nm k))/\∀i j,i<n->j<n->nm i=nm j->i=j:=by
 obtain⟨o,f,y⟩:=lV c (b:=8) .e
 obtain⟨a,R,ha⟩:=lV (c.fdiv 8) (b:=1+o) .d
 have r:=qX
 obtain⟨tail,l,Y⟩:=lR (c.fdiv 64) (bs:=List.replicate (1+o) 26) (C0 .e .d) .i
 have hl:=Y.len
 rw [zbb] at hl
 obtain⟨H,d,h2⟩:=DO c (n:Nat) (sz:=1+o) (a:=a) (tail:=tail) .d hl (List.range n) [] none none (fun k hk=>by have:=List.mem_range.mp hk;omega) .i
 refine⟨tR tail (1+o) a,cw rfl ?_,fun k=>HM .d .d,fun i j hi P e=>HL ha .d .d e⟩
 show ic vZ [.e c,.m n,none,none,none,none,none,none,none]=_
 have e:ic vZ=aL (cj 2 (fC .x)) (aL (cj 3 (ar aU (aH 1) (.a dB 0 8))) (aL (cj 4 (ar dB (.a iA 0 8) (ae 3)))
  (aL (cj 5 (ai vZ .d7)) (aL (bN 6 ao) (aL (gU (dm (bH 1)) (ah 7) Rn) (bo (ae 6))))))):=rfl
 have s3:ar aU (aH 1) (.a dB 0 8) .eU=some (.int ((1+o:Nat):Int),.eU):=aS rfl (.M (nD .e)) (by rw [show c.fmod 8=(o:Int) from f,fV];congr 2)
 have s4:ar dB (.a iA 0 8) (ae 3) .dv=some (bj a,.dv):=aS (.M (wc .e .d)) rfl (by rw [nD .d,R])
 have s5:ai vZ .d7 .dw=some (nt tail,.dw):=by
  refine aA _ (cT (.M (wc .e .d)) (aS (mf .aR .e) rfl ?_)) l
  rw [<- HQ]
  have g:=Du (ts:=[.int 26]) (k:=((1+o:Nat):Int)) .d .d (by rw [zaQ,zax];exact aQ .d)
  rw [zaQ] at g
  exact g
 rw [e,aW (show cj 2 (fC .x) [.e c,.m n,none,none,none,none,none,none,none]=some (.nx .eU) from rfl),
  aW (dv (τ2:=.dv) s3 rfl),aW (dv (τ2:=.dw) s4 rfl),
  aW (dv (τ2:=[.e c,.m n,s .x,.e ((1+o:Nat):Int),.m a,s (nt tail),none,none,none]) s5 rfl),aW (show bN 6 ao [.e c,.m n,s .x,.e ((1+o:Nat):Int),.m a,s (nt tail),none,none,none]=some (.nx (HK c (n:Nat) (1+o) a tail [] none none)) from rfl),aW (lW (mV (n:=n) rfl .d) h2)]
 rfl
inductive Pt where
 |inp (n:.D) | cell (n w:.D) | gain (n:.D) (q:Rat) (w:.D) | sum (n:.D) (ts:List (Bool×List Nat)) | out (w:.D)
def FF (b:Bool):Int:=if b then 1 else -1
abbrev gb (t:Bool×List Nat):T:=.tup [.int (FF t.1),tx t.2]
noncomputable def Pt.law:Pt->T
 | .inp n=>.tup [.str "in", tx n]
 | .cell n w=>.tup [.str "cell", tx n,tx w]
 | .gain n q w=>.tup [.str "gain", tx n,rS q,tx w]
 | .sum n ts=>.tup [.str "sum", tx n,.tup (ts.map gb)]
 | .out w=>.tup [.str "out", tx w]
noncomputable def Pt.nm:Pt->Option .br
 | .inp n=>some n
 | .cell n _=>some n
 | .gain n _ _=>some n
 | .sum n _=>some n
 | .out _=>none
noncomputable def Pt.ws:Pt->List .br
 | .inp _=>[]
 | .cell _ w=>[w]
 | .gain _ _ w=>[w]
 | .sum _ ts=>ts.map (·.2)
 | .out w=>[w]
def Pt.inner:Pt->Bool
 | .gain _ _ _=>true
 | .sum _ _=>true
 |_=>false
def QK (q:Rat):Prop:=q.num.natAbs≤99/\q.den≤12
noncomputable def Pt.Ok:Pt->Prop
 | .inp n=>qV n
 | .cell n w=>qV n/\qV w
 | .gain n q w=>qV n/\qV w/\QK q
 | .sum n ts=>qV n/\(1≤ts.length/\ts.length≤4)/\∀t∈ts,qV t.2
 | .out w=>qV w
theorem Mc {a b:Int}(hb:0<b):(Rat.divInt a b).num.natAbs≤a.natAbs/\(Rat.divInt a b).den≤b.natAbs:=by
 have e:=Ds (a:=a) hb
 rw [Dr hb] at e
 unfold rS at e
 injection e with e
 injection e with e1 e2
 injection e2 with e2 _
 injection e1 with e1
 injection e2 with e2
 have L:(.gd:Int)≠0:=G7 .d
 have h1:=Dj (a:=a) (g:=.gd) (Int.gcd_dvd_left ..) L
 have h2:=Dj (a:=b) (g:=.gd) (Int.gcd_dvd_right ..) L
 rw [e1] at h1
 rw [e2] at h2
 exact⟨h1,.d⟩
theorem Sh {a b:Int}(ha:a.natAbs<B)(hb:b.natAbs<B)(h0:0<b):nB .hf=some (rS (Rat.divInt a b)):=by rw [Hz ha hb h0,Ds h0]
theorem MJ {a b:Nat}(hb:0<b):dB (bj a) (bj b)=some (.ak ((a%b:Nat):Int)):=by
 rw [nD .d,zaX _ .d]
 rfl
theorem RZ {a b:Nat}(hb:0<b)(hB:b<B):iA (bj a) (bj b)=some (.ak ((a/b:Nat):Int)):=by
 rw [wc .d .d,za9 _ .d]
 rfl
theorem jO {a b:Nat}:aU (bj a) (bj b)=some (.ak ((a+b:Nat):Int)):=by
 rw [fV]
 rfl
abbrev bu (ls:.H):T:=.lst .ci
theorem yX {ls:.H}{i:Nat}(h:i<ls.length):bI (bu ls) (bj i)=some (tx (ls.getD i [])):=by
 show zj .ci (i:Int)=_
 rw [rG (v:=tx (ls.getD i [])) (by rw [zaI,zav h,zaD,zav h];rfl)]
theorem jd {ls:.H}:bJ [bu ls]=some (.ak (ls.length:Nat)):=by
 show some (T.int ((ls.map tx).length:Nat))=_
 rw [zah]
theorem L9 {ts:List T}{a b:Nat}(h:a+b≤ts.length):Q5 .dH (some (a:Nat)) (.aX ((a+b:Nat):Nat))=some (.lst ((ts.drop a).take b)):=by
 show some (T.lst (sN ts (some (a:Nat)) (.aX ((a+b:Nat):Nat))))=_
 unfold sN
 rw [HT.rT,HT.rT,zbo h,zbo (by omega:a≤ts.length),Nat.add_sub_cancel_left]
theorem Ma {ts:List T}{b:Nat}(h:b≤ts.length):Q5 .dH none (some (b:Nat))=some (.lst (ts.take b)):=by
 show some (T.lst (sN ts none (some (b:Nat))))=_
 unfold sN
 rw [HT.rT,HT.AX,zbo h]
 simp
theorem jL {f:FA}{τ τ':az}{ts:List T}(h:f τ=some .ib)(hl:ts.length≤1000:=by exact zag rfl):dz f τ=some (.tup ts,τ'):=by
 unfold dz
 rw [h,zaa,.al (aQ hl)]
theorem eA {f:FE}{τ τ':az}{b:Bool}(h:f τ=some (.bl b,τ')):bR f τ=some (b,τ'):=by
 unfold bR
 rw [h]
 rfl
theorem BR {c:FT}{f g:FS}{τ τ':az}(h:c τ=some (true,τ')):cG c f g τ=f τ':=by
 unfold cG
 rw [h]
 rfl
abbrev N7:List T->Option T:=cy 5 3 (eR nB)
def Rg:FS:=eY 3 (dz (.a (ar bI (eI (.a (aH 1) .gv)) (.a dB 4 2)) (.aL (.a iA 4 2))))
def Ja (ws:.H)(d:Nat):Bool×List Nat:=(decide (d%2=0),ws.getD (d/2%ws.length) [])
abbrev xI (n:.D)(dg:.D)(ws:.H)(ts:List T)(x:.aN):az:=[.s n,s (nt dg),.aJ ws,.t ts,x]
theorem JU {n:.D}{dg:.D}{ws:.H}{ts:List T}{d:Nat}(h0:0<ws.length)(B:ws.length≤1000)(hl:ts.length<900):Rg (xI n dg ws ts .eh)=some (.nx (xI n dg ws (ts++[gb (Ja ws d)]) .eh)):=by
 have r:=qX
 have e1:ar bI (eI (.a (aH 1) .gv)) (.a dB 4 2) (xI n dg ws ts .eh)=some (.int (FF (decide (d%2=0))),xI n dg ws ts .eh):=by
  refine aS (mf (ts:=[.int 1,.int (-1)]) .cg .e) (.M (MJ (b:=2) .e)) ?_
  have:d%2=0\/d%2=1:=.d
  rcases this with h | h
  ·rw [h,decide_eq_true rfl];rfl
  ·rw [h,.eK];rfl
 have e2:ar bI (ae 2) (ar dB (.a iA 4 2) (.d bJ 2)) (xI n dg ws ts .eh)=some (tx (ws.getD (d/2%ws.length) []),xI n dg ws ts .eh):=
  aS rfl (aS (.M (RZ (b:=2) .e .d)) (.ae jd) (MJ h0)) (yX (za3 _ h0))
 unfold Rg
 exact oH (ts:=ts) rfl (jL (cT e1 e2)) (bX .d)
theorem Dx {n:.D}{dg:.D}{ws:.H}(h0:0<ws.length)(B:ws.length≤1000):∀(ds:.D) (ts:List T) (x:.aN),ts.length+ds.length≤900->∃y,dk (ah 4) Rg (ds.map fun d=>bj d) (xI n dg ws ts x)=some (.nx (xI n dg ws (ts++ds.map fun d=>gb (Ja ws d)) y))
 |[],ts,x,_=>⟨x,by simp [dk]⟩
 |d::ds,ts,x,hl=>by
  rw [zap] at hl
  obtain⟨y,h2⟩:=Dx h0 B ds (ts++[gb (Ja ws d)]) .eh .b4
  refine⟨y,?_⟩
  rw [zaf,eh rfl (JU h0 B .d),h2]
  simp
theorem getD_mem {α:Type}{l:List α}{i:Nat}{d:α}(h:i<l.length):l.getD i d∈l:=by
 rw [zaD,zav h]
 exact List.getElem_mem h
theorem GJ {n:.D}{dg:.D}{ws:.H}(hn:qV n)(k:∀w∈ws,qV w)(h0:0<ws.length)(B:ws.length≤900)(hd:Below dg [5,199,12,48,48,48,48]):∃p:Pt,N7 [tx n,nt dg,bu ws]=some p.law/\p.Ok/\p.nm=some n/\p.inner=true/\∀w∈p.ws,w∈ws:=by
 have hl:=hd.len
 have r:=qX
 match dg,hd,hl with
 |[g,E,J,d3,z,j,m],hd,_ =>
  obtain⟨c,g1,g2,_⟩:=hd
  have f:∀(τ:az) (i:Nat),τ[1]? = some (s (nt [g,E,J,d3,z,j,m]))->i<7->ar bI (ae 1) (fC (bj i)) τ=some (.int (([g,E,J,d3,z,j,m].getD i 0:Nat):Int),τ):=fun τ i h hi=>aS (yY h) rfl (DP (l:=[g,E,J,d3,z,j,m]) hi)
  have U:bR (ar eO .dl (aH 0)) .bw=some (decide (g=0),.bw):=eA (aS (f _ 0 rfl .e) rfl (by
   rw [il]
   show some (.be ((g:Int)=0))=_
   congr 2
   exact decide_eq_decide.mpr .d))
  by_cases hz:g=0
  ·refine⟨.gain n (Rat.divInt ((E:Int)-99) (1+(J:Int))) (ws.getD (d3%ws.length) []),cw rfl ?_,⟨hn,k _ (getD_mem (za3 _ h0)),?_⟩,rfl,rfl,fun w B=>?_⟩
   ·show eR nB .bw=_
    unfold eR
    unfold aL
    rw [BR (by rw [U,decide_eq_true hz]),cv (jL (RW (t:=.str "gain") (u:=tx n) (v:=rS (Rat.divInt ((E:Int)-99) (1+(J:Int)))) (x:=tx (ws.getD (d3%ws.length) [])) rfl rfl ?_ ?_))]
    ·rfl
    ·refine aA _ (cT (t:=.int ((E:Int)-99)) (u:=.int (1+(J:Int))) (aS (f _ 1 rfl .e) rfl rfl) (aS rfl (f _ 2 rfl .e) fV)) (Sh .d .d .d)
    ·exact aS rfl (aS (f _ 3 rfl .e) (.ae jd) (MJ h0)) (yX (za3 _ h0))
   ·have:=Mc (a:=(E:Int)-99) (b:=1+(J:Int)) .d
    exact⟨.d,.d⟩
   ·rw [zac.mp B]
    exact getD_mem (za3 _ h0)
  ·refine⟨.sum n (([d3,z,j,m].take g).map (Ja ws)),cw rfl ?_,⟨hn,?_,fun t Y=>?_⟩,rfl,rfl,fun w B=>?_⟩
   ·obtain⟨y,R⟩:=Dx (n:=n) (dg:=[g,E,J,d3,z,j,m]) h0 .d ([d3,z,j,m].take g) [] none .i
    have e:eR nB=aL (.x (.s .dl (aH 0)) (dz (ag .df (ag (ae 0) (.a (ai nB (ag (ar EX .fX (aH 99)) (.a3 (ar aU (aH 1) (.J 1 2))))) (.aL (.J 1 3)))))))
     (aL (bN 3 ao) (aL (gU (aR .eO) (ah 4) Rg) (bo (dz (ag .cd (.a (ae 0) (.d gh 3))))))):=rfl
    show eR nB .bw=_
    rw [e,.a9 (by rw [U,decide_eq_false hz]),aW (show bN 3 ao .bw=some (.nx (.aA)) from rfl)]
    have hs:zm (ae 1) (dA (aH 3)) (dA (ar aU (aH 3) .dl)) (.aA)=some (nt ([d3,z,j,m].take g),.aA):=by
     have q1:ar aU (aH 3) .dl (.aA)=some (.int ((3+g:Nat):Int),.aA):=aS rfl (f _ 0 rfl .e) (jO (a:=3))
     unfold zm dA
     rw [show ae 1 (.aA)=some (nt [g,E,J,d3,z,j,m],.aA) from rfl,zaa]
     dsimp only
     rw [show aH 3 (.aA)=some (.int ((3:Nat):Int),.aA) from rfl,zaa]
     dsimp only
     rw [zaa]
     dsimp only
     rw [q1,zaa]
     dsimp only
     rw [zaa]
     dsimp only
     rw [L9 (a:=3) (b:=g) .i]
     show some (T.lst ((List.map (fun d=>bj d) [d3,z,j,m]).take g),_)=_
     rw [<- zbM]
    have hf:aR .eO (.aA)=some (([d3,z,j,m].take g).map (fun d=>bj d),.aA):=by
     unfold aR
     rw [hs]
     rfl
    rw [aW (lW hf R),zaO]
    show bo _ _=some (.rt (T.tup [.str "sum", tx n,.tup ((([d3,z,j,m].take g).map (Ja ws)).map gb)]))
    rw [zay]
    rfl
   ·rw [zah,zba]
    simp only [List.length_cons,List.length_nil]
    omega
   ·obtain⟨d,_,rfl⟩:=zai.mp Y
    exact k _ (getD_mem (za3 _ h0))
   ·obtain⟨t,Y,rfl⟩:=zai.mp B
    obtain⟨d,_,rfl⟩:=zai.mp Y
    exact getD_mem (za3 _ h0)
theorem sr {g:FG}{E:List T->Option Sl->az}{fb:FS}{φ:Nat->T}{P:Nat->Prop}(L:∀ts x (k:Nat),g (bj k) (E ts x)=some (E ts .b3))(hb:∀ts k,P k->ts.length<900->fb (E ts .b3)=some (.nx (E (ts++[φ k]) .b3))):
  ∀(ks:.D) (ts:List T) (x:.aN),(∀k∈ks,P k)->ts.length+ks.length≤900->∃y,dk g fb (ks.map fun k=>bj k) (E ts x)=some (.nx (E (ts++ks.map φ) y))
 |[],ts,x,_,_=>⟨x,by simp [dk]⟩
 |k::ks,ts,x,hk,hl=>by
  rw [zap] at hl
  obtain⟨y,h2⟩:=sr L hb ks (ts++[φ k]) .b3 (fun z hz=>hk z .hZ) .b4
  refine⟨y,?_⟩
  rw [zaf,eh (L ts x k) (hb ts k (hk k zae) .d),h2]
  simp
abbrev QY:List T->Option T:=cy 12 1 (ie BC vZ Lo N7)
abbrev rV (sc:.e5):T:=.scr (sc.map T.int)
abbrev eE (nm:.cv)(n:Nat):List .br:=(List.range n).map nm
noncomputable abbrev wC (sc:.e5)(c:Int)(a b o m:Nat)(f g:.H)(ts:List T)(n d h:.aN):az:=[s (rV sc),.e c,.m a,.m b,.m o,.m m,.aJ f,.aJ g,.t ts,n,d,h]
theorem Kb {nm:.cv}{n i:Nat}(h:i<n):(eE nm n).getD i []=nm i:=by
 unfold eE
 rw [zaD,zaI,zbC h]
 rfl
theorem kh {nm:.cv}{n:Nat}:(eE nm n).length=n:=by
 unfold eE
 rw [zah,za6]
theorem yo {nm:.cv}{n i:Nat}(h:i<n):bI (bu (eE nm n)) (bj i)=some (tx (nm i)):=by rw [yX (by rw [kh];exact h),Kb h]
noncomputable def Ru:FS:=(aL (cj 10 (ai vZ (.j BC)))
  (aL (eY 8 (ai N7 (.aq (.v 10 7))))
  (cj 7 (ar aU (ae 7) (eI (.aq ao))))))
theorem RX:Le [5,199,12,48,48,48,48]:=by
 have r:=qX
 intro x hx
 simp only [List.mem_cons,List.not_mem_nil,or_false] at hx
 omega
theorem HN {nm:.cv}{n:Nat}:eE nm n++[nm n]=eE nm (n+1):=by
 unfold eE
 rw [List.range_succ,zaP]
 rfl
def RH (nm:.cv)(i:Nat)(p:Pt):Prop:=p.Ok/\p.nm=some (nm i)/\p.inner=true/\∀w∈p.ws,w∈eE nm i
theorem Kq (sc:.e5)(c:Int){a b o m N k:Nat}{nm:.cv}(hn:∀i,qV (nm i))(J:N≤100)(hk:a+1+b+k<N)(ts:List T)(d:.aN)(hl:ts.length<900):∃p A,RH nm .fA p /\
  Ru (.aH .b3)=some (.nx (wC sc c a b o m .cV (eE nm (a+1+b+k+1)) (ts++[p.law]) .b3 A none)):=by
 have r:=qX
 obtain⟨dg,e1,e2⟩:=lR (sc.getD (4+k) 0+7919*(k:Int)) RX .e
 obtain⟨p,q1,q2,q3,q4,q5⟩:=GJ (n:=nm .fA) (ws:=eE nm .fA) (hn _) (fun w B=>by obtain⟨i,_,rfl⟩:=zai.mp B;exact hn i) (by rw [kh];omega) (by rw [kh];omega) e2
 refine⟨p,s (nt dg),⟨q2,q3,q4,q5⟩,?_⟩
 have f:∀(g:.H) (us:List T) (x:.aN),ar bI (ae 6) (ar aU (.x 3) (ae 9)) (wC sc c a b o m .cV g us .b3 x none)=some (tx (nm .fA),wC sc c a b o m .cV g us .b3 x none):=fun g us x =>
  aS rfl (aS .fL rfl jO) (yo hk)
 have h1:ai vZ (.j BC) (.aH .b3)
   = some (nt dg,wC sc c a b o m .cV (eE nm .fA) ts .b3 d none):=
  aA _ (cT (aS (aA _ (cT rfl (.M (jO (a:=4)))) (oP sc (4+k))) (.M (Ar .d .d)) fV) (mf (ts:=[.int 5,.int 199,.int 12,.int 48,.int 48,.int 48,.int 48]) rfl .e)) e1
 unfold Ru
 rw [aW (dv (τ2:=wC sc c a b o m .cV (eE nm .fA) ts .b3 (s (nt dg)) none) h1 rfl),aW (oH (ts:=ts) (t:=p.law) rfl (aA _ (EA (f _ _ _) rfl rfl) q1) (bX .d))]
 have L:aU (bu (eE nm .fA)) (.lst [tx (nm .fA)])=some (bu (eE nm (a+1+b+k+1))):=by
  rw [oS (by rw [List.length_map,kh];exact aQ .i)]
  rw [show [tx (nm .fA)]=[nm .fA].map tx from rfl,<- zaP,HN]
 exact dv (τ1:=wC sc c a b o m .cV (eE nm .fA) (ts++[p.law]) .b3 (s (nt dg)) none) (aS rfl (mf (bE (f _ _ _)) .dU) L) rfl
theorem DV (sc:.e5)(c:Int){a b o m N:Nat}{nm:.cv}(hn:∀i,qV (nm i))(J:N≤100):∀(j k:Nat) (ts:List T) (n d:.aN),a+1+b+k+j=N->ts.length+j≤900->∃(is:.aC) (f A:.aN),is.length=j/\(∀i (h:i<is.length),RH nm (a+1+b+k+i) is[i]) /\
  dk (ah 9) Ru (TM.upTo (k:Nat) j) (.aH n)=some (.nx (wC sc c a b o m .cV .cV (ts++is.map Pt.law) f A none))
 |0,k,ts,n,d,he,_=>⟨[],n,d,rfl,fun i h=>(Nat.not_lt_zero _ h).elim,by
  rw [show a+1+b+k=N by omega]
  simp [TM.upTo,dk]⟩
 |j+1,k,ts,n,d,he,hl=>by
  obtain⟨p,A,hp,h1⟩:=Kq (o:=o) (m:=m) sc c hn J (show a+1+b+k<N by omega) ts d .d
  obtain⟨is,l,g,g1,g2,g3⟩:=DV sc c (a:=a) (b:=b) (o:=o) (m:=m) hn J j (k+1) (ts++[p.law]) .b3 A .d .b4
  refine⟨p::is,l,g,by rw [zap,g1],fun i h=>?_,?_⟩
  ·cases i with
   |zero=>exact hp
   |succ i =>
    have:=g2 i .au
    rw [show a+1+b+k+(i+1)=a+1+b+(k+1)+i by omega]
    exact this
  ·rw [show TM.upTo (k:Nat) (j+1)=bj k::TM.upTo (((k+1:Nat)):Int) j from rfl,eh rfl h1,show a+1+b+k+1=a+1+b+(k+1) by omega,g3]
   simp
noncomputable def partsOf (nm:.cv)(a b o:Nat)(is:.aC)(e:Nat->Nat):List Pt:=
 (List.range (a+1)).map (fun i=>Pt.inp (nm i))++is++(List.range b).map (fun k=>Pt.cell (nm (a+1+k)) (nm (e k)))++(List.range (o+1)).map fun k=>Pt.out (nm (e (b+k)))
theorem EB {n x:Nat}:∀{ds:.D} {k:Nat},Below ds (List.replicate n x)->k<n->ds.getD k 0<x:=fun {ds k} h hk=>by
 have:=Below.get h (i:=k) (by rw [zbb];exact hk)
 rwa [zaD,zaD,List.getElem?_replicate,if_pos hk,Option.getD_some,<- zaD] at this
theorem SN {f:FE}{τ:az}{n:Nat}(h:f τ=some (bj n,τ))(h1:n≤1000):dm (.a3 f) τ=some (TM.upTo ((0:Nat):Int) n,τ):=by
 have:=AV (n:=(n:Int)) h .d .d
 rwa [zaQ] at this
theorem Ih (sc:.e5)(c:Int){a b o m N:Nat}{nm:.cv}{en:.D}(J:a+1+b≤N)(g:N≤100)(hb:b≤en.length)(he:∀k,k<en.length->en.getD k 0<N)(ts:List T)(n d:.aN)(hl:ts.length≤200):
  ∃f,dk (ah 9) .bM ((List.range b).map fun k=>bj k) (wC sc c a b o m .cV .cV ts n d .jv)
   = some (.nx (wC sc c a b o m .cV .cV (ts++(List.range b).map fun k=>(Pt.cell (nm (a+1+k)) (nm (en.getD k 0))).law) f d .jv)):=
 sr (E:=fun ts x=>wC sc c a b o m .cV .cV ts x d .jv) (P:=fun k=>k<b) (fun ts x k=>rfl) (fun ts k hk hl=>oH (ts:=ts) rfl (jL (EA rfl (aS rfl .fL (yo .d)) (aS rfl (.M (DP .d)) (yo (he k .d))))) (bX .d))
  (List.range b) ts n (fun k hk=>zaT.mp hk) (by rw [za6];omega)
theorem Ko (sc:.e5)(c:Int){a b o m N:Nat}{nm:.cv}{en:.D}(g:N≤100)(hb:b+o+1≤en.length)(ho:o≤10)(he:∀k,k<en.length->en.getD k 0<N)(ts:List T)(n d:.aN)(hl:ts.length≤200):
  ∃f,dk (ah 9) .bU ((List.range (o+1)).map fun k=>bj k) (wC sc c a b o m .cV .cV ts n d .jv)
   = some (.nx (wC sc c a b o m .cV .cV (ts++(List.range (o+1)).map fun k=>(Pt.out (nm (en.getD (b+k) 0))).law) f d .jv)):=
 sr (E:=fun ts x=>wC sc c a b o m .cV .cV ts x d .jv) (P:=fun k=>k<o+1) (fun ts x k=>rfl) (fun ts k hk hl=>oH (ts:=ts) rfl (jL (cT rfl (aS rfl (aS rfl (.M jO) (DP .d)) (yo (he _ .d))))) (bX .d))
  (List.range (o+1)) ts n (fun k hk=>zaT.mp hk) (by rw [za6];omega)
theorem C5 {f:FE}{g:FE}{τ:az}{nm:.cv}{n k:Nat}(h:f τ=some (bu (eE nm n),τ))(L:g τ=some (bj k,τ))(hk:k≤n):zm f eU (dA g) τ=some (bu (eE nm k),τ):=by
 unfold zm dA eU
 rw [h,zaa]
 dsimp only
 rw [zaa]
 dsimp only
 rw [L,zaa]
 dsimp only
 rw [zaa]
 dsimp only
 rw [Ma (by rw [zah,kh];exact hk),zaa]
 congr 3
 unfold eE
 rw [<- zbM,<- zbM,List.take_range,zbo hk]
theorem wM {i no:Nat}{cap:.D}{g:FA}{fg:FG}{ft:FT}{fe:FE}{τ:az}{ts us:List T}(h1:g τ=some (ts,τ))(h2:frzAll cap τ=τ)(M:bF (.bc τ)=true)(D:dG fg ft fe ts (.bc τ) []=some us):dU i no cap g fg ft fe τ=some (.nx (.bb (.n us))):=by
 unfold dU
 rw [h1,zaa]
 dsimp only
 rw [h2,if_pos M,D]
 rfl
structure Pn (nm:.cv)(a b o m:Nat)(is:.aC)(e:Nat->Nat):Prop where
 nam:∀k,qV (nm k)
 inj:∀i j,i<a+1+b+m->j<a+1+b+m->nm i=nm j->i=j
 ha:a<2
 hb:b<5
 ho:o<2
 hm:m<9
 len:is.length=m
 inn:∀i (h:i<is.length),RH nm (a+1+b+i) is[i]
 he:∀k,k<b+o+1->e k<a+1+b+m
theorem GN (sc:.e5):∃nm a b o m is e,Pn nm a b o m is e/\QY [rV sc]=some (.lst ((partsOf nm a b o is e).map Pt.law)):=by
 have r:=qX
 have b4:Le [2,5,2,9]:=by
  intro x hx
  simp only [List.mem_cons,List.not_mem_nil,or_false] at hx
  omega
 obtain⟨dg,e1,e2⟩:=lR (sc.getD 0 0) b4 .e
 have hl:=e2.len
 match dg,e2,hl with
 |[a,b,o,m],e2,_ =>
  obtain⟨ha,hb,ho,hm,_⟩:=e2
  obtain⟨nm,f1,f2,M⟩:=GL (sc.getD 1 0) (n:=a+1+b+m) .d
  have j:Lo [.int (sc.getD 1 0),.int ((a+1+b+m:Nat):Int)]=some (bu .ce):=by
   rw [f1]
   unfold bu eE
   rw [zay]
   rfl
  generalize w:sc.getD 0 0=c at *
  obtain⟨is,f,A,g1,g2,g3⟩:=DV sc c (a:=a) (b:=b) (o:=o) (m:=m) (N:=a+1+b+m) f2 .d m 0 ((List.range (a+1)).map fun i=>(Pt.inp (nm i)).law) none none .d .i
  obtain⟨en,h1,h2⟩:=lR (sc.getD 2 0) (bs:=List.replicate (b+o+1) (a+1+b+m)) (C0 .d .d) .i
  have hle:=h2.len
  rw [zbb] at hle
  have d:∀k,k<en.length->en.getD k 0<a+1+b+m:=fun k hk=>EB h2 .d
  obtain⟨l,k1⟩:=Ih sc c (a:=a) (b:=b) (o:=o) (m:=m) (N:=a+1+b+m) (nm:=nm) (en:=en) .d .d .d d .aL f A .i
  obtain⟨p,k2⟩:=Ko sc c (a:=a) (b:=b) (o:=o) (m:=m) (N:=a+1+b+m) (nm:=nm) (en:=en) .d .d .d d (.aL++(List.range b).map fun k=>(Pt.cell (nm (a+1+k)) (nm (en.getD k 0))).law) l A .i
  refine⟨nm,a,b,o,m,is,fun k=>en.getD k 0,⟨f2,M,ha,hb,ho,hm,g1,fun i h=>g2 i h,fun k hk=>d k .d⟩,cw rfl ?_⟩
  show ie BC vZ Lo N7 .c2=_
  have C:ie BC vZ Lo N7=(aL (cj 1 (.t BC (aH 0)))
   (aL (lS (ai vZ .bW) .gr)
   (aL (cj 6 (ai Lo (.a0 BC)))
   (aL (cj 7 (zm (ae 6) eU (dA (.x 3))))
   (aL (dU 8 1 [] (aR .eY) (ah 0) aO .iZ)
   (aL (gU (dm (bH 5)) (ah 9) Ru)
   (aL (cj 11 (ai vZ (.ab BC)))
   (aL (gU (dm (bH 3)) (ah 9) .bM)
   (aL (gU (dm (.a3 (.a aU 4 1))) (ah 9) .bU)
   (bo (ae 8))))))))))):=rfl
  rw [C]
  clear C
  have s1:ai BC (.a (ae 0) (aH 0)) .c2=some (.int c,.c2):=by
   refine aA _ .cg ?_
   rw [<- w]
   exact oP sc 0
  rw [aW (dv (τ2:=.bq) s1 rfl)]
  have s2:ai vZ .bW .bq=some (nt [a,b,o,m],.bq):=aA _ (cT rfl (mf (ts:=[.int 2,.int 5,.int 2,.int 9]) rfl .e)) e1
  rw [aW (show lS (ai vZ .bW) .gr .bq=some (.nx .c3) by
   unfold lS
   rw [s2]
   rfl)]
  clear s1 s2
  have s3:ai Lo (.a0 BC) .c3=some (bu .ce,.c3):=
   aA _ (cT (aA _ .cg (oP sc 1)) (aS .fL rfl jO)) j
  rw [aW (dv (τ2:=.bY) s3 rfl)]
  have s4:zm (ae 6) eU (dA (.x 3)) .bY=some (bu (eE nm (a+1+b)),.bY):=
   C5 rfl .fL .d
  rw [aW (dv (τ2:=.ah) s4 rfl)]
  clear s3 s4
  have s5:aR .eY .ah=some ((eE nm (a+1)).map tx,.ah):=by
   unfold aR
   rw [C5 (n:=a+1+b+m) (k:=a+1) rfl (.M (jO (b:=1))) .d]
   rfl
  have Z:dG (ah 0) aO .iZ ((eE nm (a+1)).map tx) [none] []=some ([]++(eE nm (a+1)).map fun n=>(Pt.inp n).law):=cJ rfl _ _ _ (fun n hn=>jL .cg) (by rw [kh];exact aQ .i)
  rw [aW (show dU 8 1 [] (aR .eY) (ah 0) aO .iZ .ah=some (.nx (wC sc c a b o m .ce (eE nm (a+1+b+0)) ((List.range (a+1)).map fun i=>(Pt.inp (nm i)).law) none none none)) by
   rw [List.nil_append,show ((eE nm (a+1)).map fun n=>(Pt.inp n).law)=(List.range (a+1)).map fun i=>(Pt.inp (nm i)).law by unfold eE;rw [List.map_map];rfl] at Z
   exact wM s5 rfl rfl Z),aW (lW (SN (n:=m) rfl .d) g3)]
  clear s5 Z g3
  have R:ai vZ (.ab BC) (wC sc c a b o m .ce .ce .aL f A none)=some (nt en,wC sc c a b o m .ce .ce .aL f A none):=by
   refine aA _ (cT (aA _ .cg (oP sc 2)) (aS (mf (bE (.ae jd)) .dU) (aS (.M jO) rfl (jO (b:=1))) ?_)) h1
   rw [<- HQ,kh]
   have g:=Du (ts:=[.int ((a+1+b+m:Nat):Int)]) (k:=((b+o+1:Nat):Int)) .d .d (by rw [zaQ,zax];exact aQ .d)
   rw [zaQ] at g
   exact g
  rw [aW (dv (τ2:=wC sc c a b o m .ce .ce .aL f A .jv) R rfl),aW (lW (mV (n:=b) rfl .d) k1),aW (lW (mV (n:=o+1) (.M (jO (b:=1))) .d) k2)]
  unfold partsOf
  simp only [List.map_append,List.map_map]
  rfl
def Pt.isIn:Pt->Bool | .inp _=>true | _=>false
def Pt.isCell:Pt->Bool | .cell _ _=>true | _=>false
def Pt.isOut:Pt->Bool | .out _=>true | _=>false
structure Gp (ps:.aC)(r:.bI):Prop where
 ok:∀p∈ps,p.Ok
 nd:(ps.filterMap Pt.nm).Nodup
 ws:∀p∈ps,∀w∈p.ws,w∈ps.filterMap Pt.nm
 rk:∀p∈ps,p.inner=true->∀n,p.nm=some n->∀w∈p.ws,r w<r n
 ins:1≤(ps.filter Pt.isIn).length/\(ps.filter Pt.isIn).length≤2
 cells:(ps.filter Pt.isCell).length≤4
 outs:1≤(ps.filter Pt.isOut).length/\(ps.filter Pt.isOut).length≤2
 len:ps.length≤24
 inn:(ps.filter Pt.inner).length≤8
theorem Gp.perm {ps i:.aC}{r:.bI}(h:.fy)(e:ps.Perm i):Gp i r:=by
 have m:∀p,p∈i->p∈ps:=fun p hp=>e.mem_iff.mpr hp
 have f:=e.filterMap Pt.nm
 refine⟨fun p hp=>h.ok p (m p hp),f.nodup_iff.mp h.nd,fun p hp w B=>f.mem_iff.mp (h.ws p (m p hp) w B),fun p hp=>h.rk p (m p hp),?_,?_,?_,?_,?_⟩
 ·rw [<- (e.filter Pt.isIn).length_eq];exact h.ins
 ·rw [<- (e.filter Pt.isCell).length_eq];exact h.cells
 ·rw [<- (e.filter Pt.isOut).length_eq];exact h.outs
 ·rw [<- e.length_eq];exact h.len
 ·rw [<- (e.filter Pt.inner).length_eq];exact h.inn
theorem zJ:∀(is:.aC) (f:.cv),(∀i (h:i<is.length),is[i].nm=some (f i))->is.filterMap Pt.nm=(List.range is.length).map f
 |[],_,_=>rfl
 |p::is,f,h=>by
  have h0:p.nm=some (f 0):=h 0 .f
  have A:=zJ is (fun i=>f (i+1)) fun i hi=>h (i+1) .dA
  rw [zbe (b:=f 0) h0,A,zap,List.range_succ_eq_map,zaf,zay]
  rfl
theorem BJ {α:Type}{f:α->Pt}{g:α->List Nat}(h:∀x,(f x).nm=some (g x)):∀l:List α,(l.map f).filterMap Pt.nm=l.map g
 |[]=>rfl
 |x::l=>by rw [zaf,zbe (b:=g x) (h x),BJ h l,zaf]
theorem Dp {α:Type}{f:α->Pt}(h:∀x,(f x).nm=none):∀l:List α,(l.map f).filterMap Pt.nm=[]
 |[]=>rfl
 |x::l=>by rw [zaf,List.filterMap_cons_none (h x),Dp h l]
noncomputable def idxs (a b m:Nat):List Nat:=List.range (a+1)++(List.range m).map (fun i=>a+1+b+i)++(List.range b).map fun k=>a+1+k
variable {nm:.cv}{a b o m:Nat}{is:.aC}{e:Nat->Nat}
theorem Pn.names (h:Pn nm a b o m is e):(partsOf nm a b o is e).filterMap Pt.nm=(idxs a b m).map nm:=by
 unfold partsOf idxs
 rw [za2,za2,za2,BJ (g:=nm) .c5,BJ (g:=fun k=>nm (a+1+k)) .c5,Dp .c5,zJ is (fun i=>nm (a+1+b+i)) (fun i hi=>(h.inn i hi).2.1),h.len,zaw,zaP,zaP,zay,zay]
 rfl
theorem zR {a b m i:Nat}:i∈idxs a b m ↔ i<a+1+b+m:=by
 unfold idxs
 simp only [List.mem_append,List.mem_map,List.mem_range]
 constructor
 ·rintro ((h | ⟨j,h,rfl⟩) | ⟨j,h,rfl⟩)<;>omega
 ·intro h
  by_cases h1:i<a+1
  ·exact .inl (.inl h1)
  ·by_cases h2:i<a+1+b
   ·exact .a1 ⟨i-(a+1),.d,.d⟩
   ·exact .inl (.a1 ⟨i-(a+1+b),.d,.d⟩)
theorem Au (n k:Nat):((List.range n).map fun i=>k+i).Nodup:=by
 refine List.pairwise_map.mpr ((List.nodup_range).imp fun f e=>f .d)
theorem JR:(idxs a b m).Nodup:=by
 unfold idxs
 rw [zaS,zaS]
 refine⟨⟨List.nodup_range,Au m (a+1+b),fun x hx y R e=>?_⟩,Au b (a+1),fun x hx y R e=>?_⟩
 ·obtain⟨i,_,rfl⟩:=zai.mp R
  have:=zaT.mp hx
  omega
 ·obtain⟨i,hi,rfl⟩:=zai.mp R
  have:=zaT.mp hi
  rcases zaA.mp hx with hx | hx
  ·have:=zaT.mp hx
   omega
  ·obtain⟨j,_,rfl⟩:=zai.mp hx
   omega
theorem HJ {N:Nat}(inj:∀i j,i<N->j<N->nm i=nm j->i=j){l:.D}(hl:l.Nodup)(J:∀x∈l,x<N):(l.map nm).Nodup:=
 List.pairwise_map.mpr (hl.imp_of_mem fun hx R f e=>f (inj _ _ (J _ hx) (J _ R) e))
theorem n6 {p:Pt}(h:p∈partsOf nm a b o is e):(∃i,i<a+1/\p=.inp (nm i))\/(∃i,∃hi:i<is.length,p=is[i])\/(∃k,k<b/\p=.cell (nm (a+1+k)) (nm (e k)))\/∃k,k<o+1/\p=.out (nm (e (b+k))):=by
 unfold partsOf at h
 rcases zaA.mp h with h | h
 ·rcases zaA.mp h with h | h
  ·rcases zaA.mp h with h | h
   ·obtain⟨i,hi,rfl⟩:=zai.mp h
    exact .inl ⟨i,zaT.mp hi,rfl⟩
   ·obtain⟨i,hi,rfl⟩:=zbA h
    exact .a1 (.inl ⟨i,hi,rfl⟩)
  ·obtain⟨i,hi,rfl⟩:=zai.mp h
   exact .a1 (.inr (.inl ⟨i,zaT.mp hi,rfl⟩))
 ·obtain⟨i,hi,rfl⟩:=zai.mp h
  exact .a1 (.inr (.inr ⟨i,zaT.mp hi,rfl⟩))
theorem rN {α:Type}{f:α->Pt}{t:Pt->Bool}(h:∀x,t (f x)=true):∀l:List α,((l.map f).filter t).length=l.length
 |[]=>rfl
 |x::l=>by rw [zaf,zaV (h x),zap,zap,rN h l]
theorem BI {t:Pt->Bool}:∀l:List Pt,(∀p∈l,t p=false)->(l.filter t).length=0
 |[],_=>rfl
 |x::l,h=>by rw [.ax (by rw [h x zae];exact zaL),BI l fun p hp=>h p (zad _ hp)]
open Classical in
def KP (nm:.cv)(N:Nat)(w:.D):Nat:=if h:∃i,i<N/\nm i=w then h.choose else 0
theorem DZ {N:Nat}(inj:∀i j,i<N->j<N->nm i=nm j->i=j){i:Nat}(hi:i<N):KP nm N (nm i)=i:=by
 have h:∃j,j<N/\nm j=nm i:=⟨i,hi,rfl⟩
 unfold KP
 rw [dif_pos h]
 exact inj _ _ h.choose_spec.1 hi h.choose_spec.2
theorem Fh {p:Pt}(h:p.inner=true):p.isIn=false/\p.isCell=false/\p.isOut=false:=by
 cases p<;>first | exact⟨rfl,rfl,rfl⟩ | cases h
theorem Pn.gp (h:Pn nm a b o m is e):Gp (partsOf nm a b o is e) (KP nm (a+1+b+m)):=by
 have mem:∀i,i<a+1+b+m->nm i∈(partsOf nm a b o is e).filterMap Pt.nm:=fun i hi=>by
  rw [h.names]
  exact zai.mpr ⟨i,zR.mpr hi,rfl⟩
 have i1:∀p∈is,p.isIn=false/\p.isCell=false/\p.isOut=false:=fun p hp=>by
  obtain⟨i,hi,rfl⟩:=zbA hp
  exact Fh (h.inn i hi).2.2.1
 have cnt:∀t:Pt->Bool,(∀p∈is,t p=false)->((partsOf nm a b o is e).filter t).length=(((List.range (a+1)).map fun i=>Pt.inp (nm i)).filter t).length+(((List.range b).map fun k=>Pt.cell (nm (a+1+k)) (nm (e k))).filter t).length+(((List.range (o+1)).map fun k=>Pt.out (nm (e (b+k)))).filter t).length:=fun t Y=>by
  unfold partsOf
  rw [zaM,zaM,zaM,zaj,zaj,zaj,BI is Y]
  rfl
 have no:∀{α:Type} {f:α->Pt} {t:Pt->Bool} (l:List α),(∀x,t (f x)=false)->((l.map f).filter t).length=0:=fun l Y=>BI _ fun p hp=>by
  obtain⟨x,_,rfl⟩:=zai.mp hp
  exact Y x
 have ha:=h.ha
 have hb:=h.hb
 have ho:=h.ho
 have hm:=h.hm
 refine⟨fun p hp=>?_,?_,fun p hp w B=>?_,fun p hp hi n hn w B=>?_,?_,?_,?_,?_,?_⟩
 ·rcases n6 hp with ⟨i,hi,rfl⟩ | ⟨i,hi,rfl⟩ | ⟨k,hk,rfl⟩ | ⟨k,hk,rfl⟩
  ·exact h.nam i
  ·exact (h.inn i hi).1
  ·exact⟨h.nam _,h.nam _⟩
  ·exact h.nam _
 ·rw [h.names]
  exact HJ h.inj JR fun x hx=>zR.mp hx
 ·rcases n6 hp with ⟨i,hi,rfl⟩ | ⟨i,hi,rfl⟩ | ⟨k,hk,rfl⟩ | ⟨k,hk,rfl⟩
  ·cases B
  ·obtain⟨j,P,rfl⟩:=zai.mp ((h.inn i hi).2.2.2 w B)
   have:=zaT.mp P
   have:=h.len
   exact mem j .d
  ·rw [zac.mp B]
   exact mem _ (h.he k .d)
  ·rw [zac.mp B]
   exact mem _ (h.he (b+k) .d)
 ·rcases n6 hp with ⟨i,hi,rfl⟩ | ⟨i,c,rfl⟩ | ⟨k,hk,rfl⟩ | ⟨k,hk,rfl⟩
  ·cases hi
  ·have hl:=h.len
   obtain⟨j,P,rfl⟩:=zai.mp ((h.inn i c).2.2.2 w B)
   have P:=zaT.mp P
   have en:=(h.inn i c).2.1
   rw [hn] at en
   cases en
   rw [DZ h.inj .d,DZ h.inj .d]
   exact P
  ·cases hi
  ·cases hi
 ·rw [cnt _ fun p hp=>(i1 p hp).1,rN .c5,no _ .c5,no _ .c5,za6]
  omega
 ·rw [cnt _ fun p hp=>(i1 p hp).2.1,no _ .c5,rN .c5,no _ .c5,za6]
  omega
 ·rw [cnt _ fun p hp=>(i1 p hp).2.2,no _ .c5,no _ .c5,rN .c5,za6]
  omega
 ·have:=h.len
  unfold partsOf
  simp only [List.length_append,List.length_map,List.length_range]
  omega
 ·unfold partsOf
  rw [zaM,zaM,zaM,zaj,zaj,zaj,no _ .c5,no _ .c5,no _ .c5]
  have:=List.length_filter_le Pt.inner is
  have:=h.len
  omega
abbrev QW:List T->Option T:=cy 5 2 (iR vZ)
abbrev DH (P:T)(c:Int)(i:.aC)(j g:.aN):az:=[s P,.e c,.t (i.map Pt.law),j,g]
theorem J1 (P:T)(c:Int){i:.aC}{p:Pt}{d:Nat}(hd:d≤i.length)(hl:i.length≤100):ES 2 (ae 4) (ae 3) (DH P c i .dW .eh)=some (.nx (DH P c (i.take d++p::i.drop d) .dW .eh)):=by
 unfold ES
 show (((ae 4 (DH P c i .dW .eh)).bind fun p=>_):Option R)=_
 rw [show ae 4 (DH P c i .dW .eh)=some (bj d,DH P c i .dW .eh) from rfl,zaa]
 dsimp only
 rw [show ae 3 (DH P c i .dW .eh)=some (p.law,DH P c i .dW .eh) from rfl,zaa]
 show (if 0≤(d:Int)/\(d:Int).toNat≤(i.map Pt.law).length/\(i.map Pt.law).length<1000 then _ else none)=_
 rw [zaQ,zah,.al ⟨.d,hd,.d⟩]
 have e:(i.map Pt.law).take d++p.law::(i.map Pt.law).drop d=(i.take d++p::i.drop d).map Pt.law:=by rw [zaP,zaf,zbM,List.map_drop]
 show some (R.nx [s P,.e c,.t ((i.map Pt.law).take d++p.law::(i.map Pt.law).drop d),s p.law,.m d])=_
 rw [e]
theorem DI (P:T)(c:Int):∀(ps:.aC) (ds:.D) (k:Nat) (i:.aC) (j g:.aN),Below ds ((List.range' k ps.length).map (· + 1))->i.length=k->k+ps.length≤100->∃rs V W,(ps++i).Perm rs/\dk (cu (.c 3 4)) (ES 2 (ae 4) (ae 3)) ((List.zip ps ds).map fun p=>.tup [p.1.law,.int (p.2:Nat)]) (DH P c i j g)=some (.nx (DH P c rs V W))
 |[],ds,k,i,j,g,_,_,_=>⟨i,j,g,List.Perm.refl _,by simp [dk]⟩
 |p::ps,[],k,i,j,g,hb,_,_=>by
  rw [zap,List.range'_succ,zaf] at hb
  exact hb.elim
 |p::ps,d::ds,k,i,j,g,hb,hq,hl=>by
  rw [zap,List.range'_succ,zaf] at hb
  rw [zap] at hl
  obtain⟨rs,V,W,e1,e2⟩:=DI P c ps ds (k+1) (i.take d++p::i.drop d) .dW .eh hb.2 (by rw [zaj,zap,zba,zbg];have:=hb.1;omega) .d
  refine⟨rs,V,W,List.Perm.trans ?_ e1,?_⟩
  ·have m:(i.take d++p::i.drop d).Perm (p::i):=by
    have:=List.perm_middle (a:=p) (l₁:=i.take d) (l₂:=i.drop d)
    rwa [List.take_append_drop] at this
   exact ((List.perm_middle (a:=p) (l₁:=ps) (l₂:=i)).symm.trans ((m.symm).append_left ps))
  ·rw [zbG,zaf,eh rfl (J1 P c (by have:=hb.1;omega) .d),e2]
theorem JD (c:Int){ps:.aC}(hl:ps.length≤100):∃rs:List Pt,ps.Perm rs/\QW [.lst .cw,.int c]=some (.lst (rs.map Pt.law)):=by
 have r:=qX
 have f:Le ((List.range' 0 ps.length).map (· + 1)):=fun x hx=>by
  obtain⟨i,hi,rfl⟩:=zai.mp hx
  have:=List.mem_range'_1.mp hi
  omega
 obtain⟨ds,e1,e2⟩:=lR c f .i
 obtain⟨rs,V,W,g1,g2⟩:=DI .J c ps ds 0 [] none none e2 rfl .d
 refine⟨rs,by simpa using g1,cw rfl ?_⟩
 show iR vZ [s .J,.e c,none,none,none]=_
 unfold iR
 have h:(T.lst ((List.range ps.length).map fun i=>T.int ((i+1:Nat):Int)))=nt ((List.range' 0 ps.length).map (· + 1)):=by
  unfold nt
  rw [zay,List.range_eq_range']
  rfl
 have h1:bf 1 [] (dm (.a3 .d1)) (ah 0) aO (.a aU 0 1) (DH .J c [] none none)=some (nt ((List.range' 0 ps.length).map (· + 1)),DH .J c [] none none):=by
  rw [<- h]
  refine bY (ts:=(List.range ps.length).map fun (i:Nat)=>T.int i) (mV (.ae (by rw [DK,zah])) .d) rfl rfl ?_
  exact cJ (φ:=fun i:Nat=>T.int i) (g:=fun i:Nat=>T.int ((i+1:Nat):Int)) rfl (List.range ps.length) none [] (fun i hi=>aS rfl rfl (jO (b:=1))) (by rw [List.length_range];exact aQ .i)
 have h2:lU (.a (ae 0) (ai vZ (ag (ae 1) (.a3 (.Q (dm (ag .d1 ao)) (.a aU 0 1)))))) (DH .J c [] none none)=some ((List.zip ps ds).map fun p=>.tup [p.1.law,.int (p.2:Nat)],DH .J c [] none none):=by
  unfold lU
  rw [cT (t:=.lst .cw) (u:=nt ds) rfl (aA _ (cT rfl h1) e1),zaa]
  show some (iP .cw (ds.map fun d=>bj d),_)=_
  rw [uM]
 rw [aW (show bN 2 ao [s .J,.e c,none,none,none]=some (.nx (DH .J c [] none none)) from rfl),aW (lW h2 g2)]
 rfl
abbrev Oz:Addr:=58
abbrev eX:Addr:=337
abbrev cO:Addr:=372
abbrev cn:Addr:=412
abbrev bL:Addr:=452
abbrev bW:Addr:=488
abbrev cQ:Addr:=528
abbrev cW:Addr:=597
noncomputable def Pt.obj:Pt->T
 | .inp n=>.obj cO ["name"] [tx n]
 | .cell n w=>.obj cn ["name",.cQ] [tx n,tx w]
 | .gain n q w=>.obj bL ["name","by",.cQ] [tx n,rS q,tx w]
 | .sum n ts=>.obj bW ["name","terms"] [tx n,.tup (ts.map gb)]
 | .out w=>.obj cQ ["source"] [tx w]
noncomputable def Pt.kind:Pt->List Nat
 | .inp _=>[105,110]
 | .cell _ _=>[99,101,108,108]
 | .gain _ _ _=>[103,97,105,110]
 | .sum _ _=>[115,117,109]
 | .out _=>[111,117,116]
def kQ (t:Bool×List Nat):List Nat:=(if t.1 then [] else [45])++t.2
noncomputable def Pt.args:Pt->List .br
 | .inp n=>[n]
 | .cell n w=>[n,w]
 | .gain n q w=>[n,gC q.num q.den,w]
 | .sum n ts=>n::ts.map kQ
 | .out w=>[w]
def Pt.row (p:Pt):List Nat:=jl 32 .iP
theorem pJ:Str.ofString "in" = S [105,110]:=.c
theorem mK:Str.ofString "cell" = S [99,101,108,108]:=.c
theorem mL:Str.ofString "gain" = S [103,97,105,110]:=.c
theorem lg:Str.ofString "sum" = S .i5:=.c
theorem wR:Str.ofString "out" = S [111,117,116]:=.c
theorem QD:Str.ofString "in " = S [105,110,32]:=.c
theorem La:Str.ofString "cell " = S [99,101,108,108,32]:=.c
theorem En:Str.ofString "gain " = S [103,97,105,110,32]:=.c
theorem NP:Str.ofString "sum " = S [115,117,109,32]:=.c
theorem NO:Str.ofString "out " = S [111,117,116,32]:=.c
theorem yT:Str.ofString " " = S [32]:=.c
theorem QC:Str.ofString " -" = S [32,45]:=.c
theorem QE:Str.ofString "\n" = S [10]:=.c
theorem DJ (p:Pt):bI p.law (.ak 0)=some (tx p.kind):=by
 cases p
 ·exact congrArg .fk pJ
 ·exact congrArg .fk mK
 ·exact congrArg .fk mL
 ·exact congrArg .fk lg
 ·exact congrArg .fk wR
theorem ma (p:Pt):kR p.kind:=by
 intro c U
 cases p<;>simp only [Pt.kind,List.mem_cons,List.not_mem_nil,or_false] at U<;>omega
theorem eB {τ:az}{i:Nat}{p:Pt}{k:String}{l:.D}(h:τ[i]? = some .dW)(hk:.fP)(hl:kR l):bR (ar eO (.J i 0) .c7) τ=some (decide (p.kind=l),τ):=by
 rw [hk]
 exact eA (aS (aS (yY h) rfl (DJ p)) rfl (xB (ma p) hl))
theorem nN (l:.D)(h:l.all (fun c=>decide (c<128))=true):kR l:=fun c U=>of_decide_eq_true (zbR.mp h c U)
theorem so:kR [105,110]:=nN _ rfl
theorem sj:kR [99,101,108,108]:=nN _ rfl
theorem sk:kR [103,97,105,110]:=nN _ rfl
theorem qC:kR .i5:=nN _ rfl
theorem Gj:kR [111,117,116]:=nN _ rfl
theorem yN {q:Rat}(h:QK q):(gC q.num q.den).length≤6:=by
 have h1:=fG 1 q.num.natAbs (by have:=h.1;omega)
 have h2:=fG 1 q.den (by have:=h.2;omega)
 unfold gC
 rw [zaj,zaj]
 split<;>split<;>simp<;>omega
theorem Pt.len_args:∀{p:Pt},p.Ok->p.args.length≤5/\∀a∈p.args,a.length≤9
 | .inp n,h=>⟨zag rfl,fun a ha=>by rw [zac.mp ha];have:=h.2.1;omega⟩
 | .cell n w,h=>⟨zag rfl,fun a ha=>by
  rcases zao.mp ha with rfl | ha
  ·have:=h.1.2.1;omega
  ·rw [zac.mp ha];have:=h.2.2.1;omega⟩
 | .gain n q w,h=>⟨zag rfl,fun a ha=>by
  rcases zao.mp ha with rfl | ha
  ·have:=h.1.2.1;omega
  ·rcases zao.mp ha with rfl | ha
   ·have:=yN h.2.2;omega
   ·rw [zac.mp ha];have:=h.2.1.2.1;omega⟩
 | .sum n ts,h=>⟨by simp only [Pt.args,List.length_cons,List.length_map];have:=h.2.1;omega,fun a ha=>by
  rcases zao.mp ha with rfl | ha
  ·have:=h.1.2.1;omega
  ·obtain⟨t,Y,rfl⟩:=zai.mp ha
   have:=(h.2.2 t Y).2.1
   unfold kQ
   split<;>simp<;>omega⟩
 | .out w,h=>⟨zag rfl,fun a ha=>by rw [zac.mp ha];have:=h.2.1;omega⟩
theorem B6 (c:Nat):∀ps:List .br,(jl c ps).length≤oB ps+ps.length
 |[]=>zaU _
 |[p]=>by simp [jl,oB]
 |p::q::r=>by
  have:=B6 c (q::r)
  rw [jn,zaj,zap]
  simp only [oB,List.map_cons,List.sum_cons,List.length_cons] at this ⊢
  omega
theorem Pt.row_len {p:Pt}(h:p.Ok):p.row.length≤60/\oB .iP≤49:=by
 have h1:=Pt.len_args h
 have h2:=pF (m:=9) h1.2
 have M:=B6 32 .iP
 have D:p.kind.length≤4:=by cases p<;>exact zag rfl
 have R:oB .iP=p.kind.length+oB p.args:=by simp [oB]
 rw [zap] at M
 have f:p.args.length*9≤5*9:=Nat.mul_le_mul_right 9 h1.1
 unfold Pt.row
 omega
abbrev Lm:List T->Option T:=cy 1 1 (jQ OJ)
theorem oE {f g:FE}{τ:az}{a b:.D}(h:f τ=some (tx a,τ))(h':g τ=some (tx b,τ))(hl:.g7):ar aU f g τ=some (tx (a++b),τ):=aS h h' (E5 hl)
theorem dH {k:String}{l:.D}(hk:.fP)(τ:az):fC (.str (Str.ofString k)) τ=some (tx l,τ):=by rw [hk];rfl
theorem KU (t:Bool×List Nat):(if t.1 then [32] else [32,45])++t.2=32::kQ t:=by
 unfold kQ
 cases t.1<;>rfl
theorem yj (c:Nat):∀(p:.D) (ps:.H),jl c (p::ps)=p++(ps.map (c::·)).flatten
 |p,[]=>by simp [jl]
 |p,q::r=>by rw [jn,yj c q r];simp
theorem Dg {p:Pt}(h:p.Ok):Lm [p.law]=some .gT:=by
 have hl:=Pt.row_len h
 refine .es
 show jQ OJ [s p.law]=_
 unfold jQ
 by_cases L:p.kind=[103,97,105,110]
 ·match p,L,h with
  | .gain n q w,_,h =>
   have hn:=h.1.2.1
   have hw:=h.2.1.2.1
   have hs:=yN h.2.2
   have hf:ai OJ (.a3 (.J 0 2)) [s (Pt.gain n q w).law]=some (tx .a3,[s (Pt.gain n q w).law]):=aA _ (bE .dP) (QG (a:=q.num) (b:=q.den) (zaG h.2.2.1 .c) (zaG h.2.2.2 .c))
   unfold aL
   rw [BR (by rw [eB rfl mL sk];rfl),cv (oE (oE (oE (oE (oE (dH En _) .dP .i) .jC .i) hf .i) .jC .i) .dP .i)]
   show some (R.rt (tx _))=some (R.rt (tx _))
   congr 3
   simp [Pt.row,Pt.kind,Pt.args,jl]
 ·rw [.a9 (by rw [eB rfl mL sk,decide_eq_false L])]
  by_cases hu:p.kind=.i5
  ·match p,hu,h with
   | .sum n ts,_,h =>
    have hn:=h.1.2.1
    have hk:=h.2.1
    have U:bf 2 [] (aR (.J 0 2)) .cr aO .cm .ik=some (.lst ((ts.map kQ).map fun w=>tx (32::w)),.ik):=by
     refine bY (ts:=ts.map gb) rfl rfl rfl ?_
     rw [zay,show (ts.map ((fun w=>tx (32::w)) ∘ kQ))=[]++ts.map fun t=>tx (32::kQ t) from rfl]
     refine iy (φ:=fun t:Bool×List Nat=>T.int (FF t.1)) (ψ:=fun t=>tx t.2) rfl _ _ _ _ (fun t Y=>?_) .ay
     have hw:=(h.2.2 t Y).2.1
     have e1:ar bI (eI (.a (fC (.str " -")) .cx)) (.f fU (.m BK (aH 0))) .gS=some (tx (if t.1 then [32] else [32,45]),.gS):=by
      refine aS (mf (ts:=[tx [32,45],tx [32]]) (cT (dH QC _) .jC) .dU) (aA [.bl (decide (FF t.1>0))] (bE .dP) (t:=.int (if t.1 then 1 else 0)) ?_) ?_
      ·cases t.1<;>rfl
      ·cases t.1<;>rfl
     rw [<- KU]
     exact oE e1 rfl (by split<;>simp<;>omega)
    have P:=DE (ls:=(ts.map kQ).map (32::·)) (by
     refine Nat.le_trans (pF (m:=10) fun l hl=>?_) .i
     obtain⟨x,hx,rfl⟩:=zai.mp hl
     obtain⟨t,Y,rfl⟩:=zai.mp hx
     have hw:=(h.2.2 t Y).2.1
     unfold kQ
     split<;>simp<;>omega)
    rw [zay] at P
    have r:(((ts.map kQ).map (32::·)).flatten).length≤900:=by
     have:=yj 32 n (ts.map kQ)
     have h2:=hl.1
     rw [Pt.row,Pt.args,jn,this] at h2
     simp only [List.length_append,List.length_cons] at h2
     omega
    have c:ar cU (fC .d0) (.aa (.J 0 2) .cm) .ik=some (tx (((ts.map kQ).map (32::·)).flatten),.ik):=aS rfl U P
    unfold aL
    rw [BR .ez,cv (oE (oE (dH NP _) .dP .i) c (by simp only [List.length_append,List.length_cons,List.length_nil];omega))]
    show some (R.rt (tx _))=some (R.rt (tx _))
    congr 3
    rw [Pt.row,Pt.args,jn,yj]
    simp [Pt.kind]
  ·rw [.a9 (by rw [eB rfl lg qC,decide_eq_false hu])]
   have hp:p.law=.tup ((p.kind::p.args).map tx):=by
    cases p with
    |inp n=>exact congrArg (fun x=>T.tup [.str x,tx n]) pJ
    |cell n w=>exact congrArg (fun x=>T.tup [.str x,tx n,tx w]) mK
    |gain n q w=>exact absurd rfl L
    |sum n ts=>exact absurd rfl hu
    |out w=>exact congrArg (fun x=>T.tup [.str x,tx w]) wR
   rw [cv (aS .jC (show ae 0 [s p.law]=some (.tup ((p.kind::p.args).map tx),[s p.law]) by rw [<- hp];rfl) (MA 32 (by have:=(Pt.len_args h).1;rw [zap];omega)))]
   rfl
theorem Dz {l:.D}(h:NumText.AllDigits l)(hn:l≠[])(hl:l.length≤600):fU [tx l]=some (.ak (NumText.digitsVal l:Nat)):=by
 show (if (S l).length≤640 then (PySem.intText? (S l)).map T.int else none)=_
 rw [cm,if_pos .d,PySem.intText_digits (by rw [dJ];exact h) (by rw [dJ];exact hn) (by rw [cm];omega),dJ]
 rfl
theorem JV {l:.D}(h:NumText.AllDigits l)(hn:l≠[])(hl:l.length≤600):fU [tx (45::l)]=some (.ak (-(NumText.digitsVal l:Nat))):=by
 show (if (S (45::l)).length≤640 then (PySem.intText? (S (45::l))).map T.int else none)=_
 rw [cm,if_pos .i,PySem.intText_neg (cs:=l) (by rw [dJ]) h hn (by rw [cm];simp;omega)]
 rfl
theorem Hk {n:Nat}(h:n<10^30):Pg (ds n)=true:=JX.mpr ⟨⟨zD n,fG 29 n h⟩,fM n⟩
theorem NS {l:.D}(h:l.length≤1000):Ol (tx l)=some (!decide (l=[])):=by
 show (.aI (((S l).length:Int) != 0))=_
 rw [cm,.al (aQ h)]
 cases l with
 |nil=>rfl
 |cons c r =>
  rw [decide_eq_false .f]
  congr 1
abbrev OI:List T->Option T:=cy 5 1 (iU N5 N6 Oa)
def sgn (a:Int):List Nat:=if a<0 then [45] else []
theorem Ea (a:Int):(sgn a).length≤1:=by unfold sgn;split<;>decide
theorem KQ {a:Int}(ha:a.natAbs≤99):tj (tx .cI) (tx [45])=some (tx (ds a.natAbs)):=by
 have hd:=fM a.natAbs
 have h1:=fG 1 a.natAbs .d
 have h2:=Ea a
 show (if (S .cI).length≤sizeLine then some (T.str (Txt.removeprefix (S .cI) (S [45]))) else none)=_
 rw [.al (by rw [cm,zaj];exact aQ .d)]
 unfold sgn
 by_cases h:a<0
 ·rw [.jo,List.singleton_append,wI]
 ·rw [if_neg h,zaO,wJ (fun e=>?_)]
  have:=hd 45 (List.mem_of_mem_head? (by rw [e];rfl))
  omega
theorem JW {a:Int}(ha:a.natAbs≤99):fU [tx .cI]=some (.ak a):=by
 have hl:=fG 1 a.natAbs .d
 unfold sgn
 by_cases h:a<0
 ·rw [.jo,List.singleton_append,JV (fM _) (zD _) .d,BF]
  congr 2
  omega
 ·rw [if_neg h,zaO,Dz (fM _) (zD _) .d,BF]
  congr 2
  omega
theorem IJ (a:Int)(c:Nat)(U:c∈sgn a++ds a.natAbs):c=45\/(48≤c/\c≤57):=by
 rcases zaA.mp U with h | h
 ·unfold sgn at h
  split at h
  ·exact .inl (zac.mp h)
  ·cases h
 ·exact .a1 (fM _ c h)
theorem yO (a:Int)(b:Nat):gC a b=.cI++(if b=1 then [] else 47::ds b):=by
 unfold gC sgn
 rw [za5]
theorem Ef (a:Int)(b:Nat):∀c∈gC a b,c=45\/c=47\/(48≤c/\c≤57):=fun c U=>by
 rw [yO] at U
 rcases zaA.mp U with h | h
 ·rcases IJ a c h with h | h
  ·exact .inl h
  ·exact .a1 (.inr h)
 ·split at h
  ·cases h
  ·rcases zao.mp h with h | h
   ·exact .a1 (.inl h)
   ·exact .a1 (.inr (fM _ c h))
theorem df {f:FE}{τ τ':az}{t:T}{b:Bool}(h:f τ=some (t,τ'))(hb:Ol t=some b):bU f τ=some (b,τ'):=by
 unfold bU
 rw [h,zaa,hb]
 rfl
theorem la {c:FT}{τ τ':az}{b:Bool}(h:c τ=some (b,τ')):gK c τ=some (!b,τ'):=by
 unfold gK
 rw [h]
 rfl
theorem zE {n:Nat}(h:n≤99):(ds n).length≤2:=fG 1 n .d
theorem Qb {q:Rat}(h:QK q):OI [tx .a3]=some (rS q):=by
 obtain⟨ha,hb⟩:=h
 have k:0<q.den:=zbH q.den_nz
 have L:Int.gcd q.num q.den=1:=q.reduced
 show _=some (zo q.num q.den)
 generalize q.num=a at *
 generalize q.den=b at *
 have v:=zE (n:=b) .d
 have x:=zE ha
 have A:=Ea a
 have no:47∉sgn a++ds a.natAbs:=fun z=>by
  have:=IJ a 47 z
  omega
 have B:(gC a b).length≤6:=by
  rw [yO]
  split<;>simp<;>omega
 have bd:(10:Nat)^30<10^72:=.c
 have d:=Lu (ds a.natAbs) .d
 rw [Hk (zaG ha .c)] at d
 have g:=Lu (ds b) .d
 rw [Hk (zaG hb .c)] at g
 have i:=Pe (a:=a) (b:=b) (zaG ha (zaZ .e qX)) (zaG hb (zaZ .e qX))
 rw [decide_eq_true (show 1≤b from k),decide_eq_true L] at i
 have p:=LN (a:=a) (b:=b) (zaG ha .c) (zaG hb .c)
 have r:∃m w,qM (tx (gC a b)) (tx [47])=some (.tup [tx .cI,tx m,tx w])/\m.length≤1/\(if m=[] then [49] else w)=ds b:=by
  have e:qM (tx (gC a b)) (tx [47])=some (T.tup [.av (S (gC a b)) (S [47]),.am (S (gC a b)) (S [47]),.al (S (gC a b)) (S [47])]):=if_pos ⟨by rw [cm];rfl,by rw [cm];exact aQ .d⟩
  rw [e,yO]
  by_cases h1:b=1
  ·rw [if_pos h1,zaw,Kp no]
   exact⟨[],[],rfl,.e,by rw [h1,qJ .e];rfl⟩
  ·rw [if_neg h1,Ii no]
   exact⟨[47],ds b,rfl,.e,rfl⟩
 obtain⟨m,w,e1,hm,e2⟩:=r
 refine .es
 show iU N5 N6 Oa .eE=_
 unfold iU
 have i1:ai bM (.a (ae 0) (fC (.ty "str"))) .eE=some (.iG,.eE):=aA _ .cg rfl
 rw [aW (cZ (la (df i1 rfl))),aW (show lS (.m qM (fC (.str "/"))) (cu (aD (ah 1) (.c 2 3))) .eE=some (.nx .gD) by
  unfold lS
  rw [aS rfl (dH uB _) e1]
  rfl)]
 have M:cG (.a2 (ae 2)) (cj 3 (fC (.str "1"))) bK .gD=some (.nx .aa):=by
  have Y:=la (df (f:=ae 2) (τ:=.gD) rfl (NS (l:=m) .d))
  rw [Bool.not_not] at Y
  by_cases h:m=[]
  ·rw [if_pos h] at e2
   rw [BR (by rw [Y,decide_eq_true h]),<- e2]
   exact dv (dH QF _) rfl
  ·rw [if_neg h] at e2
   rw [cZ (by rw [Y,decide_eq_false h]),e2]
 rw [aW M]
 have c1:ai N5 (.a3 (ar tj (ae 1) .cU)) .aa=some (.iG,.aa):=aA _ (bE (aS rfl (dH pK _) (KQ ha))) d
 have c2:ai N5 (bH 3) .aa=some (.iG,.aa):=aA _ .aR g
 rw [aW (cZ (ja (la (df c1 rfl)) (la (df c2 rfl))))]
 have y:dz (.a (.d fU 1) (.d fU 3)) .aa=some (zo a b,.aa):=jL (cT (.ae (JW ha)) (.ae (by rw [Dz (fM _) (zD _) .d,BF])))
 rw [aW (dv (τ2:=.ax) y rfl)]
 have j:ai N6 (bH 4) .ax=some (.iG,.ax):=aA _ .aR i
 have u:kR (gC a b):=fun c U=>by have:=Ef a b c U;omega
 have t:bR (ar jM (.d Oa 4) (ae 0)) .ax=some (false,.ax):=eA (aS (.ae p) rfl (by rw [Mr u u,decide_eq_true rfl];rfl))
 rw [aW (cZ (ja (la (df j rfl)) t))]
 rfl
theorem IT (l:.D):Jl (tx (45::l)) (tx [45])=some .bE:=by
 show some (T.bl (Txt.startswith (S (45::l)) (S [45])))=_
 rw [Txt.startswith.eq_1,cm,cm,StrLaws.subAt_eq,dJ,dJ,cm]
 simp
theorem IU {l:.D}(h:l.head?≠some 45):Jl (tx l) (tx [45])=some .Q:=by
 show some (T.bl (Txt.startswith (S l) (S [45])))=_
 rw [Txt.startswith.eq_1,cm,cm,StrLaws.subAt_eq,dJ,dJ,cm]
 cases l with
 |nil=>simp
 |cons c r =>
  simp at h
  simp [h]
theorem JT:∀i:Fin 26,(match rf (.str ⟨#[97+i.val]⟩) .x with | some .f0=>b | _=>false)=true:=.c
theorem Mv {c:Nat}(h:97≤c/\c≤122):rf (.str ⟨#[c]⟩) .x=some .bE:=by
 have:=JT ⟨c-97,.d⟩
 rw [show 97+(⟨c-97,.d⟩:Fin 26).val=c by show 97+(c-97)=c;omega] at this
 split at this
 ·next b e=>rw [e,this]
 ·cases this
theorem all_true {α:Type}{φ:α->T}:∀l:List α,(∀x∈l,φ x=.bl true)->mZ [.lst .jl]=some .bE:=fun l h=>by
 have e:∀l:List α,(∀x∈l,φ x=.bl true)->boolsOf .jl=some (l.map fun _=>true):=by
  intro l
  induction l with
  |nil=>intro _;rfl
  |cons a l A =>
   intro h
   rw [zaf,h a zae]
   show (boolsOf .jl).bind _=_
   rw [A fun x hx=>h x (zad _ hx)]
   rfl
 show (boolsOf .jl).bind _=_
 rw [e l h]
 show some (T.bl ((l.map fun _=>true).all id))=_
 rw [zbS]
 simp
abbrev OG:List T->Option T:=cy 1 1 mR
theorem Py {l:.D}(h:qV l):OG [tx l]=some .bE:=by
 have h0:1≤l.length:=by
  have:=h.1
  cases l with
  |nil=>exact absurd rfl this
  |cons a b=>simp
 refine .es
 show mR .eg=_
 unfold mR
 have hlen:ai bJ (bH 0) .eg=some (.int (l.length:Nat),.eg):=aA _ .aR (LC (by have:=h.2.1;omega))
 have U:bf 1 [] (sZ (ae 0)) (ah 0) aO (.m rf (fC .x)) .eg=some (.lst (l.map fun _=>T.bl true),.eg):=by
  refine bY (ts:=l.map fun c=>T.str ⟨#[c]⟩) (show some (jz (S l),_)=_ by rw [Eh]) rfl rfl ?_
  exact cJ (g:=fun _=>T.bl true) rfl l none [] (fun c U=>aS rfl rfl (Mv (h.2.2 c U))) (by simpa using aQ (by have:=h.2.1;omega))
 exact cv (by rw [Bu (C1 hlen rfl .d (by have:=h.2.1;omega)),aA _ (bE U) (all_true (φ:=fun _=>T.bl true) l fun _ _=>rfl)])
abbrev Jk:List T->Option T:=cy 2 2 (iT OG)
theorem zt {ls:.H}{n:Nat}(hn:ls.length=n)(hl:n≤100)(h:∀l∈ls,qV l):Jk [bu ls,bj n]=some .bE:=by
 refine .es
 show iT OG [.aJ ls,.m n]=_
 unfold iT
 have hlen:ar eO .d1 (ae 1) [.aJ ls,.m n]=some (.iG,[.aJ ls,.m n]):=aS (.ae jd) rfl (by rw [GI,hn,decide_eq_true rfl])
 have U:bf 1 [] (.am 0) (ah 0) aO (.d OG 0) [.aJ ls,.m n]=some (.lst (ls.map fun _=>T.bl true),[.aJ ls,.m n]):=by
  refine bY (ts:=ls.map tx) rfl rfl rfl ?_
  exact cJ (g:=fun _=>T.bl true) rfl ls none [] (fun l hl=>aA _ .aR (Py (h l hl))) .ay
 exact cv (by rw [Bu hlen,aA _ (bE U) (all_true (φ:=fun _=>T.bl true) ls fun _ _=>rfl)])
abbrev Ra:List T->Option uN:=dI 2 1 fS
abbrev Q8:List T->Option uN:=dI 3 2 eP
abbrev Q9:List T->Option uN:=dI 4 3 eQ
abbrev Rc:List T->Option uN:=dI 3 2 fy
abbrev Rb:List T->Option uN:=dI 2 1 fw
theorem Sj:.aO (Str.ofString "source"):=.c
theorem Sk:.aO (Str.ofString "by"):=.c
theorem Sm:¬ (Str.ofString "source")∈([]++[Str.ofString "name"]++[Str.ofString "by"]:List Str):=.c
theorem Sn:.aO (Str.ofString "terms"):=.c
theorem O8 (t:T):Ra [t]=some ((["name"]:List Str),[t]):=wa ⟨rfl,fun x=>by
 show fS x [.gZ,fB t] [] []=_
 unfold fS
 rw [.db]
 rfl⟩
theorem O6 (t u:T):Q8 [t,u]=some ((["name",.cQ]:List Str),[t,u]):=wa ⟨rfl,fun x=>by
 show eP x [.gZ,fB t,fB u] [] []=_
 unfold eP
 rw [.db,fH (t:=u) rfl rfl ⟨Sj,zag rfl⟩ rfl]
 rfl⟩
theorem O7 (t u v:T):Q9 [t,u,v]=some ((["name","by",.cQ]:List Str),[t,u,v]):=wa ⟨rfl,fun x=>by
 show eQ x [.gZ,fB t,fB u,fB v] [] []=_
 unfold eQ
 rw [.db,fH (t:=u) rfl rfl ⟨Sk,zag rfl⟩ rfl,fH (t:=v) rfl rfl ⟨Sm,zag rfl⟩ rfl]
 rfl⟩
theorem Pd (t u:T):Rc [t,u]=some ((["name","terms"]:List Str),[t,u]):=wa ⟨rfl,fun x=>by
 show fy x [.gZ,fB t,fB u] [] []=_
 unfold fy
 rw [.db,fH (t:=u) rfl rfl ⟨Sn,zag rfl⟩ rfl]
 rfl⟩
theorem Pb (t:T):Rb [t]=some ((["source"]:List Str),[t]):=wa ⟨rfl,fun x=>by
 show fw x [.gZ,fB t] [] []=_
 unfold fw
 rw [.db]
 rfl⟩
theorem zS {c:FT}{f g:FE}{τ τ':az}(h:c τ=some (true,τ')):zk c f g τ=f τ':=by
 unfold zk
 rw [h]
 rfl
theorem Lx {c:FT}{f g:FE}{τ τ':az}(h:c τ=some .jB):zk c f g τ=g τ':=by
 unfold zk
 rw [h]
 rfl
theorem oG {c d:FT}{τ τ':az}(h:c τ=some (true,τ')):gS c d τ=d τ':=by
 unfold gS
 rw [h]
 rfl
theorem vO {c d:FT}{τ τ':az}(h:c τ=some .jB):gS c d τ=some .jB:=by
 unfold gS
 rw [h]
 rfl
theorem NT {fb:FS}{u:FX}{fh:Lf}{τ:az}{r:R}(h:fb τ=some r):GP fb u fh τ=some r:=by
 unfold GP
 rw [h]
abbrev QT:List T->Option T:=cy 2 1 (gG Oz OI)
theorem OV {q:Rat}(h:QK q):QT [tx .a3]=some (rS q):=by
 refine .es
 show gG Oz OI [.s .a3,none]=_
 unfold gG
 have h1:ai OI (bH 0) [.s .a3,none]=some (rS q,[.s .a3,none]):=aA _ .aR (Qb h)
 rw [aW (NT (dv (τ2:=.hX) h1 rfl))]
 have c1:bR (ar uU (.f sQ .dl) (aH 99)) .hX=some (true,.hX):=eA (aS (aA _ (bE (t:=.int q.num) .dP) (sR _)) rfl (by
  show some (.be ((q.num.natAbs:Int)≤99))=_
  rw [decide_eq_true (by have:=h.1;omega)]))
 have c2:bR (ar uU .fX (aH 12)) .hX=some (true,.hX):=eA (aS (a:=.int (q.den:Int)) .dP rfl (by
  show some (.be ((q.den:Int)≤12))=_
  rw [decide_eq_true (by have:=h.2;omega)]))
 exact cv (by rw [zS (by rw [oG c1,c2])];rfl)
abbrev Q0:List T->Option T:=cy 4 3 (iV bL QT Jk Q9)
theorem Qc {n w:.D}{q:Rat}(h:(Pt.gain n q w).Ok):Q0 [tx n,tx .a3,tx w]=some (Pt.gain n q w).obj:=by
 refine .es
 show iV bL QT Jk Q9 [.s n,.s .a3,.s w,none]=_
 unfold iV
 rw [aW (dv (τ2:=.el) (.ae (OV h.2.2)) rfl)]
 have c1:bR (ar xC (ae 3) .it) .el=some (true,.el):=rfl
 have c2:bU (ai Jk (.a (eI (.v 0 2)) (aH 2))) .el=some (true,.el):=df (aA _ (cT (t:=bu [n,w]) (mf .cg .dU) rfl) (zt (n:=2) rfl .e fun l hl=>by
  rcases zao.mp hl with rfl | hl
  ·exact h.1
  ·rw [zac.mp hl];exact h.2.1)) rfl
 exact cv (by rw [zS (by rw [oG c1,c2]),Fs (EA rfl rfl rfl) (O7 _ _ _)];rfl)
abbrev Q2:List T->Option T:=cy 3 2 (jS bW Jk Rc)
theorem FW {t:Bool×List Nat}(h:qV t.2):Jl (tx (kQ t)) (tx [45])=some (.bl (!t.1))/\tj (tx (kQ t)) (tx [45])=some (tx t.2)/\(kQ t).length≤9:=by
 have hl:=h.2.1
 have P:t.2.head?≠some 45:=fun e=>by
  have:=h.2.2 45 (List.mem_of_mem_head? (by rw [e];rfl))
  omega
 have c:∀(l m:.D),l.length≤900->Txt.removeprefix (S l) (S [45])=S m->tj (tx l) (tx [45])=some (tx m):=fun l m hl e=>by
  show (.aI (T.str (Txt.removeprefix (S l) (S [45]))))=_
  rw [.al (by rw [cm];exact aQ .d),e]
 obtain⟨b,l⟩:=t
 have d:l.length≤8:=hl
 cases b with
 |true=>exact⟨IU P,c _ _ (by simp [kQ];omega) (wJ P),by simp [kQ];omega⟩
 |false=>exact⟨IT l,c _ _ (by simp [kQ];omega) (wI l),by simp [kQ];omega⟩
theorem Qh {n:.D}{ts:List (Bool×List Nat)}(h:(Pt.sum n ts).Ok):Q2 [tx n,bu (ts.map kQ)]=some (Pt.sum n ts).obj:=by
 have hk:=h.2.1
 refine .es
 show jS bW Jk Rc .js=_
 unfold jS
 have U:bf 1 [] (.am 1) (ah 0) aO (dz (.a (zk (bU (.m Jl .cU)) .gv (aH 1)) (.m tj .cU))) .js=some (.lst (ts.map gb),.js):=by
  refine bY (ts:=ts.map fun t=>tx (kQ t)) (show some ((ts.map kQ).map tx,_)=_ by rw [zay];rfl) rfl rfl ?_
  rw [show ts.map gb=[]++ts.map gb from rfl]
  refine cJ (φ:=fun t:Bool×List Nat=>tx (kQ t)) rfl ts none [] (fun t Y=>?_) .ay
  obtain⟨i,K,k⟩:=FW (h.2.2 t Y)
  refine jL (cT (t:=.int (FF t.1)) (u:=tx t.2) ?_ (aS rfl (dH pK _) K))
  have c:=df (f:=ar Jl (ae 0) .cU) (τ:=[s (tx (kQ t))]) (aS rfl (dH pK _) i) (b:=!t.1) (by cases t.1<;>rfl)
  cases Y:t.1 with
  |true =>
   rw [Y] at c
   exact (Lx c).trans rfl
  |false =>
   rw [Y] at c
   exact (zS c).trans rfl
 rw [aW (dv (τ2:=.bO) (aA _ (bE U) rfl) rfl)]
 have d:bf 2 [] (.am 2) .cr aO (ae 1) .bO=some (.lst (ts.map fun t=>tx t.2),.bO):=by
  refine bY (ts:=ts.map gb) rfl rfl rfl ?_
  exact iy (φ:=fun t:Bool×List Nat=>T.int (FF t.1)) (ψ:=fun t=>tx t.2) (g:=fun t=>tx t.2) rfl ts none none [] (fun t Y=>rfl) .ay
 have c2:bU (ai Jk (.a (ar aU (eI (bH 0)) (bf 2 [] (.am 2) (cu (aD (ah 0) (aD (ah 1) bS))) aO (ae 1))) (ar aU (.d bJ 2) (aH 1)))) .bO=some (true,.bO):=by
  refine df (aA _ (cT (t:=bu (n::ts.map (·.2))) (u:=.int ((ts.length+1:Nat):Int)) (aS (mf .aR (Nat.le_of_ble_eq_true rfl)) d ?_) (aS (aA [.tup (ts.map gb)] .aR (t:=.int (ts.length:Nat)) ?_) rfl (jO (b:=1)))) (zt (n:=ts.length+1) .f .d fun l hl=>?_)) rfl
  ·rw [oS (by rw [List.length_map];exact aQ .i)]
   unfold bu
   rw [zaf,zay]
   rfl
  ·show some (T.int ((ts.map gb).length:Nat))=_
   rw [zah]
  ·rcases zao.mp hl with rfl | hl
   ·exact h.1
   ·obtain⟨t,Y,rfl⟩:=zai.mp hl
    exact h.2.2 t Y
 exact cv (by rw [zS c2,Fs .cg (Pd _ _)];rfl)
theorem Ei (c:Nat){ls:.H}(h0:ls≠[])(hf:∀l∈ls,c∉l)(h1:(jl c ls).length≤16777216)(h2:ls.length≤1000):gW (tx .jx) (tx [c])=some (bu ls):=by
 have e:Txt.split (S .jx) (S [c])=ls.map S:=by
  rw [<- B7,show S [c]=one c from rfl,Bd]
  exact Cv (by simpa using h0) fun p hp=>by
   obtain⟨l,hl,rfl⟩:=zai.mp hp
   rw [BA]
   exact hf l hl
 show (if ((S [c]).length == 0)=false/\(S .jx).length≤sizeLine/\(Txt.split (S .jx) (S [c])).length≤sizeLine then some (T.lst ((Txt.split (S .jx) (S [c])).map T.str)) else none)=_
 rw [e,if_pos ⟨by rw [cm];rfl,by rw [cm];exact h1,by rw [zah];exact aQ h2⟩,zay]
 rfl
theorem Pt.vis:∀{p:Pt},p.Ok->∀l∈p.kind::p.args,∀c∈l,33≤c/\c<128:=by
 intro p h l hl c U
 have nm:∀{n:.D},qV n->c∈n->33≤c/\c<128:=fun hn U=>by have:=hn.2.2 c U;omega
 rcases zao.mp hl with rfl | hl
 ·cases p<;>simp only [Pt.kind,List.mem_cons,List.not_mem_nil,or_false] at U<;>omega
 ·match p,h with
  | .inp n,h=>rw [zac.mp hl] at U;exact nm h U
  | .cell n w,h =>
   rcases zao.mp hl with rfl | hl
   ·exact nm h.1 U
   ·rw [zac.mp hl] at U;exact nm h.2 U
  | .gain n q w,h =>
   rcases zao.mp hl with rfl | hl
   ·exact nm h.1 U
   ·rcases zao.mp hl with rfl | hl
    ·have:=Ef _ _ c U
     omega
    ·rw [zac.mp hl] at U;exact nm h.2.1 U
  | .sum n ts,h =>
   rcases zao.mp hl with rfl | hl
   ·exact nm h.1 U
   ·obtain⟨t,Y,rfl⟩:=zai.mp hl
    rcases zaA.mp U with U | U
    ·split at U
     ·cases U
     ·have:=zac.mp U
      omega
    ·exact nm (h.2.2 t Y) U
  | .out w,h=>rw [zac.mp hl] at U;exact nm h U
theorem Hq {c x:Nat}:∀{ls:.H},x∈jl c ls->x=c\/∃l∈ls,x∈l
 |[],h=>by cases h
 |[p],h=>.inr ⟨p,zac.mpr rfl,h⟩
 |p::q::r,h=>by
  rw [jn] at h
  rcases zaA.mp h with h | h
  ·exact .a1 ⟨p,zae,h⟩
  ·rcases zao.mp h with h | h
   ·exact .inl h
   ·rcases Hq h with h | ⟨l,hl,hx⟩
    ·exact .inl h
    ·exact .a1 ⟨l,zad _ hl,hx⟩
theorem Pt.row_mem {p:Pt}(h:p.Ok){c:Nat}(U:c∈p.row):32≤c/\c<128:=by
 rcases Hq U with rfl | ⟨l,hl,hx⟩
 ·omega
 ·have:=Pt.vis h l hl c hx
  omega
abbrev N9:List T->Option T:=cy 3 1 (iW cO cn cQ Jk Q0 Q2 Ra Q8 Rb)
theorem Jg {p:Pt}{τ:az}{k:String}{l:.D}(h:τ[1]? = some (s (tx p.kind)))(hk:.fP)(hl:kR l):bR (ar eO (ae 1) .c7) τ=some (decide (p.kind=l),τ):=
 eA (aS (yY h) (dH hk τ) (xB (ma p) hl))
theorem ne_if {p:Pt}{τ:az}{k:String}{l:.D}{c:FT}{t:FS}(h:τ[1]? = some (s (tx p.kind)))(hk:.fP)(hl:kR l)(hn:p.kind≠l):cG (.ai .c7 c) t bK τ=some (.nx τ):=cZ (vO (by rw [Jg h hk hl,decide_eq_false hn]))
theorem uK {p:Pt}{τ:az}{k:String}{l:.D}{c:FT}{t:FS}(h:τ[1]? = some (s (tx p.kind)))(hk:.fP)(hl:kR l)(hn:p.kind=l)(U:c τ=some (true,τ)):cG (.ai .c7 c) t bK τ=t τ:=BR (by rw [oG (by rw [Jg h hk hl,decide_eq_true hn]),U])
theorem uv {a b:FS}{τ:az}{t:T}(h:a τ=some (.rt t)):aL a b τ=some (.rt t):=by
 unfold aL
 rw [h]
 rfl
theorem Qg {p:Pt}(h:p.Ok):N9 [tx p.row]=some p.obj:=by
 have hl:=Pt.row_len h
 have ha:=Pt.len_args h
 have hs:gW .gT (tx [32])=some (bu .iP):=Ei 32 .f (fun l hl U=>by have:=Pt.vis h l hl 32 U;omega) (Nat.le_trans hl.1 .e) (by rw [List.length_cons];omega)
 refine .es
 show iW cO cn cQ Jk Q0 Q2 Ra Q8 Rb [s .gT,none,none]=_
 unfold iW
 rw [aW (show lS (.m gW .cx) (xE (.c 1 2)) [s .gT,none,none]=some (.nx [s .gT,s (tx p.kind),s (bu p.args)]) by
  unfold lS
  rw [aS rfl .jC hs]
  rfl)]
 clear hs
 have f:∀(τ:az) (i:Nat),τ[2]? = some (s (bu p.args))->i<p.args.length->ar bI (ae 2) (fC (bj i)) τ=some (tx (p.args.getD i []),τ):=fun τ i h hi=>aS (yY h) rfl (yX hi)
 match p,h with
 | .inp n,h =>
  refine uv ?_
  rw [uK (p:=.inp n) rfl pJ so rfl (df (aA _ .cg (zt (ls:=[n]) (n:=1) rfl .e fun l hl=>by rw [zac.mp hl];exact h)) rfl)]
  exact cv (Fs (bE (f _ 0 rfl .dU)) (O8 _))
 | .cell n w,h =>
  rw [aW (ne_if (p:=.cell n w) rfl pJ so .cy)]
  refine uv ?_
  rw [uK (p:=.cell n w) rfl mK sj rfl (df (aA _ .cg (zt (ls:=[n,w]) (n:=2) rfl .e fun l hl=>by
   rcases zao.mp hl with rfl | hl
   ·exact h.1
   ·rw [zac.mp hl];exact h.2)) rfl)]
  exact cv (Fs (cT (f _ 0 rfl .dU) (f _ 1 rfl .dU)) (O6 _ _))
 | .gain n q w,h =>
  rw [aW (ne_if (p:=.gain n q w) rfl pJ so .cy),aW (ne_if (p:=.gain n q w) rfl mK sj .cy)]
  refine uv ?_
  rw [uK (p:=.gain n q w) rfl mL sk rfl (eA (aS (.ae jd) rfl rfl))]
  exact cv (aA _ (EA (f _ 0 rfl .dU) (f _ 1 rfl .dU) (f _ 2 rfl .dU)) (Qc h))
 | .sum n ts,h =>
  have hk:=h.2.1
  rw [aW (ne_if (p:=.sum n ts) rfl pJ so .cy),aW (ne_if (p:=.sum n ts) rfl mK sj .cy),aW (ne_if (p:=.sum n ts) rfl mL sk .cy)]
  refine uv ?_
  rw [uK (p:=.sum n ts) rfl lg qC rfl (eA (C1 (b:=((ts.length+1:Nat):Int)) (c:=5) (aA _ .aR (by rw [jd];simp [Pt.args])) rfl .d .d))]
  refine cv (aA _ (cT (t:=tx n) (u:=bu (ts.map kQ)) (f _ 0 rfl (by simp [Pt.args])) ?_) (Qh h))
  unfold zm dA eU
  rw [show ae 2 .aY=some (bu (Pt.sum n ts).args,.aY) from rfl,zaa]
  dsimp only
  rw [show aH 1 .aY=some (.int ((1:Nat):Int),.aY) from rfl,zaa]
  dsimp only
  rw [zaa]
  dsimp only
  rw [zaa]
  show ((some (T.lst (sN ((n::ts.map kQ).map tx) (.aX ((1:Nat):Int)) none))).bind _:Option (T×az))=_
  unfold sN
  rw [HT.rT,HT.AX,List.length_map,List.length_cons,Nat.min_eq_left .d,List.map_cons,List.drop_one,List.tail_cons,List.take_of_length_le .f]
  rfl
 | .out w,h =>
  rw [aW (ne_if (p:=.out w) rfl pJ so .cy),aW (ne_if (p:=.out w) rfl mK sj .cy),aW (ne_if (p:=.out w) rfl mL sk .cy),aW (ne_if (p:=.out w) rfl lg qC .cy)]
  refine uv ?_
  rw [uK (p:=.out w) rfl wR Gj rfl (df (aA _ .cg (zt (ls:=[w]) (n:=1) rfl .e fun l hl=>by rw [zac.mp hl];exact h)) rfl)]
  exact cv (Fs (bE (f _ 0 rfl .dU)) (Pb _))
abbrev QX:List T->Option T:=cy 1 1 (iS Lm)
def textOf (ps:.aC):List Nat:=jl 10 .jw
theorem AW {ps:.aC}(h:∀p∈ps,p.Ok)(hl:ps.length≤24):oB .jw+(ps.map Pt.row).length≤2000:=by
 have:=pF (m:=60) (ls:=ps.map Pt.row) fun l hl=>by
  obtain⟨p,hp,rfl⟩:=zai.mp hl
  exact (Pt.row_len (h p hp)).1
 rw [zah] at this ⊢
 have h2:ps.length*60≤24*60:=Nat.mul_le_mul_right 60 hl
 omega
theorem JE {ps:.aC}(h:∀p∈ps,p.Ok)(hl:ps.length≤24):QX [.lst .cw]=some (tx .bB):=by
 refine .es
 show iS Lm [s .J]=_
 unfold iS
 have U:bf 1 [] (.am 0) (ah 0) aO (.d Lm 0) [s .J]=some (bu .jw,[s .J]):=by
  refine bY (ts:=ps.map Pt.law) rfl rfl rfl ?_
  rw [zay,show ps.map (tx ∘ Pt.row)=[]++ps.map fun p=>tx p.row from rfl]
  exact cJ rfl ps none [] (fun p hp=>aA _ .aR (Dg (h p hp))) .ay
 have:=AW h hl
 exact cv (aS (dH QE _) U (Hr 10 .d))
abbrev Jz:List T->Option T:=cy 5 1 (ik N9)
def Rx:FS:=(aL (cj 4 (.d N9 3)) (aL (cG (bR (ar Oi (ae 4) .it)) gi bK) (eY 1 (ae 4))))
theorem Kd (p:Pt):Oi p.obj .non=some .Q:=by cases p<;>rfl
theorem D6 (t:T):∀(ps:.aC) (k:Nat) (ts:List T) (C j g:.aN),(∀p∈ps,p.Ok)->ts.length+ps.length≤900->∃w V W,dk (cu (.c 2 3)) Rx (Df k (ps.map fun p=>tx p.row)) [s t,.t ts,C,j,g]=some (.nx [s t,.t (ts++ps.map Pt.obj),w,V,W])
 |[],k,ts,C,j,g,_,_=>⟨C,j,g,by simp [dk,Df]⟩
 |p::ps,k,ts,C,j,g,h,hl=>by
  rw [zap] at hl
  obtain⟨w,V,W,h2⟩:=D6 t ps (k+1) (ts++[p.obj]) .b3 (s .gT) (s p.obj) (fun x hx=>h x (zad _ hx)) .b4
  refine⟨w,V,W,?_⟩
  have hB:Rx [s t,.t ts,.m k,s .gT,g]=some (.nx [s t,.t (ts++[p.obj]),.m k,s .gT,s p.obj]):=by
   unfold Rx
   rw [aW (dv (τ2:=[s t,.t ts,.m k,s .gT,s p.obj]) (.ae (Qg (h p zae))) rfl),.a9 (eA (.M (Kd p)))]
   exact oH (ts:=ts) rfl rfl (bX .d)
  rw [zaf,Df,eh rfl hB,h2]
  simp
theorem Np {ps:.aC}(h0:ps≠[])(h:∀p∈ps,p.Ok)(hl:ps.length≤24):Jz [tx .bB]=some .y:=by
 obtain⟨w,V,W,h2⟩:=D6 (tx .bB) ps 0 [] none none none h .i
 have hr:=AW h hl
 have hs:gW (tx .bB) (tx [10])=some (bu .jw):=Ei 10 (by simpa using h0) (fun l hl U=>by
  obtain⟨p,hp,rfl⟩:=zai.mp hl
  have:=Pt.row_mem (h p hp) U
  omega) (by have:=B6 10 .jw;omega) (by rw [zah];omega)
 refine .es
 show ik N9 [.s .bB,none,none,none,none]=_
 have e:ik N9=aL (bN 1 ao) (aL (gU (sX .iB) (cu (.c 2 3)) Rx) (bo (ae 1))) := rfl
 rw [e, aW (show bN 1 ao [.s .bB, none, none, none, none] = some (.nx .hW) from rfl)]
 have hf : sX .iB .hW = some (Df 0 (ps.map fun p => tx p.row), .hW) := by
  unfold sX
  rw [bE (aS rfl (dH QE _) hs), zaa]
  show some (Df 0 ((ps.map Pt.row).map tx), _) = _
  rw [zay]
  rfl
 rw [aW (lW hf h2)]
 rfl
noncomputable def Pt.cls : Pt->Addr
 | .inp _ => cO
 | .cell _ _ => cn
 | .gain _ _ _ => bL
 | .sum _ _ => bW
 | .out _ => cQ
abbrev sS : List T->Option T := cy 1 1 nh
abbrev xo : List T->Option T := cy 1 1 (nc cn bL cQ)
abbrev xp : List T->Option T := cy 1 1 (ng cn bL cQ)
abbrev xr : List T->Option T := cy 1 1 (h9 bW)
abbrev xq : List T->Option T := cy 1 1 (oI cn bL cQ)
abbrev Jp : List .aE := [(eX, sS), (cO, sS), (cn, xo), (bL, xp), (bW, xr), (cQ, xq)]
theorem Sr : ¬ (Str.ofString "wants")∈(.aQ : List Str) := by decide +kernel
theorem Sq : ¬ (Str.ofString "row")∈(.aQ : List Str) := by decide +kernel
noncomputable def Pt.flds : Pt->List Str
 | .inp _ => ["name"]
 | .cell _ _ => ["name",.cQ]
 | .gain _ _ _ => ["name","by",.cQ]
 | .sum _ _ => ["name","terms"]
 | .out _ => ["source"]
noncomputable def Pt.vals : Pt->List T
 | .inp n => [tx n]
 | .cell n w => [tx n, tx w]
 | .gain n q w => [tx n, rS q, tx w]
 | .sum n ts => [tx n, .tup (ts.map gb)]
 | .out w => [tx w]
theorem HR (p : Pt): p.obj = .obj p.cls p.flds p.vals := by cases p<;>rfl
theorem GX (p : Pt): ∀x∈p.flds, x∈(.aQ : List Str) := by
 intro x hx
 cases p<;>simp only [Pt.flds, List.mem_cons, List.not_mem_nil, or_false] at hx ⊢
 ·exact .inl hx
 ·rcases hx with h | h
  ·exact .inl h
  ·exact .a1 (.inl h)
 ·rcases hx with h | h | h
  ·exact .inl h
  ·exact .a1 (.inr (.inl h))
  ·exact .a1 (.inl h)
 ·rcases hx with h | h
  ·exact .inl h
  ·exact .a1 (.inr (.inr h))
 ·exact .a1 (.inl hx)
theorem P6 {p : Pt}{alts : List .aE}{m : Str}{fo : FE}{g : FA}{τ τ1 τ2 : az}{i : List T}{d : List T->Option T}{t : T}(hm : ¬ m∈(.aQ : List Str))(h : fo τ = some (p.obj, τ1))(hf : ny p.cls alts = some d)(L : g τ1 = some (i, τ2))(hd : d (p.obj::i) = some t): cR alts m fo g τ = some (t, τ2) := by
 rw [HR] at h hd
 exact kf h (fun z => hm (GX p m z)) hf L hd
noncomputable abbrev dW : Pt->List T->Option T
 | .inp _ => sS
 | .cell _ _ => xo
 | .gain _ _ _ => xp
 | .sum _ _ => xr
 | .out _ => xq
theorem Mi (p : Pt): ny p.cls Jp = some (dW p) := by cases p<;>rfl
theorem jm (τ : az): ao τ = some ([], τ) := rfl
theorem Tj {p : Pt}(h : p.Ok): dW p [p.obj] = some (.tup (p.ws.map tx)) := by
 cases p with
 |inp n => rfl
 |cell n w => exact cw rfl (cv (jL .aR))
 |gain n q w => exact cw rfl (cv (jL .aR))
 |out w => exact cw rfl (cv (jL .aR))
 |sum n ts =>
  refine .es
  show h9 bW [s (Pt.sum n ts).obj] = _
  unfold h9
  have U : bf 2 [] (aR .gU) .cr aO (ae 1) [s (Pt.sum n ts).obj] = some (.lst (ts.map fun t => tx t.2), [s (Pt.sum n ts).obj]) := by
   refine bY (ts := ts.map gb) rfl rfl rfl ?_
   exact iy (φ := fun t : Bool×List Nat => T.int (FF t.1)) (ψ := fun t => tx t.2) (g := fun t => tx t.2) rfl ts none none [] (fun t Y => rfl) (by simpa using aQ (by have := h.2.1;omega))
  refine cv (aA _ (bE U) ?_)
  show some (T.tup (ts.map fun t => tx t.2)) = some (T.tup ((ts.map (·.2)).map tx))
  rw [zay]
  rfl
theorem yZ {p : Pt}(h : p.Ok){fo : FE}{τ τ1 : az}(ho : fo τ = some (p.obj, τ1)): cR Jp "wants" fo ao τ = some (.tup (p.ws.map tx), τ1) := P6 Sr ho (Mi p) (jm _) (Tj h)
theorem kg {p : Pt}{n : List Nat}(h : p.nm = some n){fo : FE}{τ τ1 : az}(ho : fo τ = some (p.obj, τ1)): cY [cO, cn, bL, bW] "name" fo τ = some (tx n, τ1) := by
 unfold cY
 rw [ho]
 cases p with
 |out w => cases h
 |_ => cases h;rfl
theorem AM {k : Str} : ∀{ns : List Str}, k∉ns->putN ns k = ns++[k]
 |[], _ => rfl
 |n::ns, h => by
  rw [putN, if_neg (fun e => h (by rw [e];exact zae)), AM fun z => h (zad _ z)]
  rfl
theorem AN {α : Type}{k : Str}{w : α} : ∀{ns : List Str} {vs : List α}, vs.length = ns.length->k∉ns->lB ns vs k w = vs++[w]
 |[], [], _, _ => rfl
 |[], _::_, h, _ => by cases h
 |n::ns, [], h, _ => by cases h
 |n::ns, v::vs, h, hk => by
  rw [lB, if_neg (fun e => hk (by rw [e];exact List.mem_cons_self)), AN .au fun z => hk (.S z)]
  rfl
theorem yE {ns : List Str}{vs : List T}{k : Str}{w : T}(hl : vs.length = ns.length)(h : k∉ns): DS.put (ns, vs) k w = (ns++[k], vs++[w]) := by
 unfold DS.put
 rw [AM h, AN hl h]
theorem jB {k : Str} : ∀{ns : List Str}, fQ ns k = true ↔ k∈ns
 |[] => by simp [fQ]
 |n::ns => by
  rw [fQ]
  split
  ·next e => simp [e]
  ·next e =>
   rw [jB, zao]
   constructor
   ·exact .inr
   ·rintro (h | h)
    ·exact absurd h.symm e
    ·exact h
theorem Jt {k : Str}{ns : List Str}(h : k∉ns): fQ ns k = false := by
 cases e : fQ ns k with
 |false => rfl
 |true => exact absurd (jB.mp e) h
theorem tK {n : List Nat}{ls : List .br} : S n∈ls.map S ↔ n∈ls := by
 constructor
 ·intro h
  obtain⟨x, hx, e⟩ := zai.mp h
  rw [<- vN e]
  exact hx
 ·intro h
  exact zai.mpr ⟨n, h, rfl⟩
abbrev names (ps : List Pt): List .br := ps.filterMap Pt.nm
theorem Hl {p : Pt}{fo : FE}{τ τ1 : az}(h : fo τ = some (p.obj, τ1)): cK [(eX, false), (cO, false), (cn, false), (bL, false), (bW, false), (cQ, true), (cW, false)] fo τ = some (.bl p.isOut, τ1) := by
 unfold cK
 rw [h]
 cases p<;>rfl
theorem LA {p : Pt}{fo : FE}{τ τ1 : az}(h : fo τ = some (p.obj, τ1)): cK [(eX, false), (cO, true), (cn, false), (bL, false), (bW, false), (cQ, false), (cW, false)] fo τ = some (.bl p.isIn, τ1) := by
 unfold cK
 rw [h]
 cases p<;>rfl
theorem Ly {p : Pt}{fo : FE}{τ τ1 : az}(h : fo τ = some (p.obj, τ1)): cK [(eX, false), (cO, false), (cn, true), (bL, false), (bW, false), (cQ, false), (cW, false)] fo τ = some (.bl p.isCell, τ1) := by
 unfold cK
 rw [h]
 cases p<;>rfl
abbrev Q1 : List T->Option T := cy 4 1 (lM eX cO cn bL bW cQ cW sS xo xp xr xq)
noncomputable def Qd : FZ := (NZ 1 (.a2 (cK [(eX, false), (cO, false), (cn, false), (bL, false), (bW, false), (cQ, true), (cW, false)] (ae 2))) (zc (Et 1 (cY [cO, cn, bL, bW] "name" (ae 2)) mP iN) (CN 1 (cY [cO, cn, bL, bW] "name" (ae 2)) (fC .bE))) iN)
theorem wD (t : T)(a : Addr)(x y : Option Sl): fW 1 a [s t, s (.ptr a), x, y] = true := zbI a
theorem MU {p : Pt}(h : p.isOut = true): p.nm = none := by cases p<;>first | rfl | cases h
theorem Kc {p : Pt}(h : p.isOut = false): ∃n, p.nm = some n := by cases p<;>first | exact⟨_, rfl⟩ | cases h
def nA : List Pt->Option Sl->Option Sl
 |[], x => x
 |p::ps, _ => nA ps (s p.obj)
theorem D0 (t : T)(a : Addr): ∀(ps i : List Pt) (x : Option Sl), (names (i++ps)).Nodup->(i++ps).length≤900->kW 1 (ah 2) Qd .bb a ((names i).map S, (names i).map fun _ => T.bl true) [s t, s (.ptr a), x, none] = some (((names (i++ps)).map S, (names (i++ps)).map fun _ => T.bl true), [s t, s (.ptr a), nA ps x, none])
 |[], i, x, _, _ => by rw [zaw];rfl
 |p::ps, i, x, hn, hl => by
  have e : i++p::ps = .i9++ps := by simp
  have h2 := D0 t a ps .i9 (s p.obj) (by rw [<- e];exact hn) (by rw [<- e];exact hl)
  have hB : Qd a ((names i).map S, (names i).map fun _ => T.bl true) .bL = some (((names .i9).map S, (names .i9).map fun _ => T.bl true), .bL) := by
   unfold Qd NZ
   have U := la (df (Hl (p := p) (fo := ae 2) (τ := .bL) rfl) rfl)
   rw [U, zaa]
   dsimp only
   rw [if_pos (wD t a _ _)]
   cases ho : p.isOut with
   |true =>
    rw [if_neg .e]
    unfold iN names
    rw [za2, List.filterMap_cons_none (MU ho)]
    simp
   |false =>
    rw [if_pos (show (!false) = true from rfl)]
    obtain⟨n, j⟩ := Kc ho
    have c := kg j (fo := ae 2) (τ := .bL) rfl
    have en : names .i9 = names i++[n] := by
     unfold names
     rw [za2, zbe j]
     rfl
    have d : S n∉(names i).map S := by
     rw [tK]
     intro z
     rw [e] at hn
     unfold names at hn
     rw [za2] at hn
     have := (zaS.mp hn).1
     change (names .i9).Nodup at this
     rw [en, zaS] at this
     exact this.2.2 n z n .hj rfl
    unfold zc Et
    rw [c, zaa]
    dsimp only
    rw [.al (wD t a _ _), if_neg (by rw [Jt d];decide)]
    unfold iN
    rw [zaa]
    unfold CN
    rw [show fC .bE .bL = some (.iG, .bL) from rfl, zaa]
    dsimp only
    rw [.al (wD t a _ _), c, zaa]
    dsimp only
    rw [if_pos ⟨wD t a _ _, bX (by
     rw [zah]
     have h1 : (names i).length≤i.length := List.length_filterMap_le ..
     rw [zaj] at hl
     omega)⟩, yE (by rw [zah, zah]) d, en]
    simp
  rw [zaf, kW, show ah 2 p.obj [s t, s (.ptr a), x, none] = some .bL from rfl, zaa]
  rw [.al (wD t a _ _), hB, zaa, h2, <- e]
  rfl
def SK : FS := (cG (bR (ar (jX true) (ae 3) (ae 1))) gi bK)
def SM : FS := gU (aR (.ao 2)) (ah 3) SK
theorem AS {ns : List .br}{vs : List T}(t u : T): ∀(ws : List .br) (x : Option Sl), (∀w∈ws, w∈ns)->∃y, dk (ah 3) SK (ws.map tx) [s t, .cW, s u, x] = some (.nx [s t, .cW, s u, y])
 |[], x, _ => ⟨x, rfl⟩
 |w::ws, x, h => by
  obtain⟨y, h2⟩ := AS (ns := ns) (vs := vs) t u ws (s (tx w)) fun z hz => h z .hZ
  refine⟨y, ?_⟩
  have hB : SK [s t, .cW, s u, .s w] = some (.nx [s t, .cW, s u, .s w]) := cZ (eA (aS rfl rfl (by
   show some (T.bl (xor true (fQ (ns.map S) (S w)))) = _
   rw [jB.mpr (tK.mpr (h w zae))]
   rfl)))
  rw [zaf, eh rfl hB, h2]
theorem AU {ns : List .br}{vs : List T}(t : T): ∀(ps : List Pt) (x j : Option Sl), (∀p∈ps, p.Ok)->(∀p∈ps, ∀w∈p.ws, w∈ns)->∃y V, dk (ah 2) SM .bb [s t, .cW, x, j] = some (.nx [s t, .cW, y, V])
 |[], x, j, _, _ => ⟨x, j, rfl⟩
 |p::ps, x, j, ho, h => by
  obtain⟨V, M⟩ := AS (ns := ns) (vs := vs) t p.obj p.ws j (h p zae)
  obtain⟨y, k, h2⟩ := AU (ns := ns) (vs := vs) t ps (s p.obj) V (fun z hz => ho z .hZ) fun z hz => h z .hZ
  refine⟨y, k, ?_⟩
  have hf : aR (.ao 2) [s t,.cW,s p.obj,j]=some (p.ws.map tx,[s t,.cW,s p.obj,j]):=by
   unfold aR
   rw [yZ (ho p zae) rfl]
   rfl
  rw [zaf,eh rfl (show SM _=_ from lW hf M),h2]
theorem Qe {ps:.aC}{r:.bI}(h:.fy):Q1 [.lst .bb]=some .non:=by
 obtain⟨y,V,h2⟩:=AU (ns:=names ps) (vs:=(names ps).map fun _=>T.bl true) .y ps (nA ps none) none h.ok h.ws
 have hr:sW 1 (nM (CM 1 (.am 0) (ah 2) Qd) (zEnd 1 (gU (.am 0) (ah 2) SM))) [s .y,none,none,none]=some (.nx [s .y,s (.dct ((names ps).map S) ((names ps).map fun _=>T.bl true)),y,V]):=by
  refine zF .dU fun a=>?_
  have h1:=D0 .y a ps [] none (by simpa using h.nd) (by have:=h.len;simp;omega)
  show nM _ _ a ([],[]) .fQ=_
  unfold nM CM
  rw [show aR (ae 0) .fQ=some (ps.map Pt.obj,.fQ) from rfl,zaa]
  dsimp only
  rw [if_pos (wD _ a _ _)]
  change (kW 1 (ah 2) Qd .bb a ((names []).map S,(names []).map fun _=>T.bl true) .fQ).bind _=_
  rw [h1,zaa]
  exact lW rfl h2
 exact Lp rfl hr
theorem oM {f:Pt->Bool}{ft:FT}{ρ:az}(hr:bF ρ=true)(h1:∀p,ft (s p.obj::ρ)=some (f p,s p.obj::ρ)):∀(l:.aC) (u:.aN) (acc:List T),acc.length+l.length≤sizeLine->(u=none\/∃t,u=s t) ->
  dG (ah 0) ft (ae 0) (l.map Pt.obj) (u::ρ) acc=some (acc++(l.filter f).map Pt.obj)
 |[],u,acc,_,_=>by simp [dG]
 |p::l,u,acc,hl,_=>by
  have i:.dd:=hl
  have hs:bF (s p.obj::ρ)=true:=by simpa [bF] using hr
  rw [zaf,dG,show ah 0 p.obj (u::ρ)=some (s p.obj::ρ) from rfl,zaa,h1,zaa]
  cases hp:f p with
  |true =>
   rw [.e8,show ae 0 (s p.obj::ρ)=some (p.obj,s p.obj::ρ) from rfl,Option.bind_some,if_pos ⟨hs,.d⟩,oM hr h1 l _ _ .cz .jn,List.filter_cons_of_pos hp,List.map_cons,List.append_assoc]
   rfl
  |false =>
   rw [if_neg .f,if_pos hs]
   dsimp only
   rw [oM hr h1 l _ _ .d .jn,.ax (by simp [hp])]
abbrev QZ:List T->Option T:=cy 4 1 (fz eX cO cn bL bW cQ cW)
theorem GU {f:Pt->Bool}{ft:FT}{ps:.aC}{τ:az}(h1:∀p,ft [s p.obj]=some (f p,[s p.obj]))(h:aR (ae 0) τ=some .ht)(hl:ps.length≤900):bf 1 [] (.am 0) (ah 0) ft (ae 0) τ=some (.lst ((ps.filter f).map Pt.obj),τ):=
 bY h rfl rfl (oM (ρ:=[]) rfl h1 ps none [] .ay .bc)
theorem JQ {f:FE}{τ:az}{n:Nat}{m:Int}(h:f τ=some (bj n,τ))(hn:(n:Int)≤m):bR (ar BK f (fC (.ak m))) τ=some (false,τ):=eA (aS h rfl (by
 show some (.be (m<(n:Int)))=_
 rw [decide_eq_false .d]))
theorem Lq {f:FE}{τ:az}{n:Nat}(h:f τ=some (bj n,τ))(hn:1≤n):bR (ar eO f (aH 0)) τ=some (false,τ):=eA (aS h rfl (by
 rw [il,.eK]))
theorem rO {α:Type}(f:α->T)(l:List α):bJ [.lst (l.map f)]=some (.ak (l.length:Nat)):=by rw [DK,zah]
theorem Qa {ps:.aC}{r:.bI}(h:.fy):QZ [.lst .bb]=some .non:=by
 have hl:=h.len
 have e1:∀τ:az,aR (ae 0) τ=some .ht->ai bJ (.a3 (.bq (cK [(eX,false),(cO,true),(cn,false),(bL,false),(bW,false),(cQ,false),(cW,false)] (ae 0)))) τ=some (.int .du,τ):=fun τ Y=>aA _ (bE (GU (f:=Pt.isIn) (fun p=>df (LA rfl) rfl) Y .d)) (rO _ _)
 have e2:∀τ:az,aR (ae 0) τ=some .ht->ai bJ (.a3 (.bq (cK [(eX,false),(cO,false),(cn,true),(bL,false),(bW,false),(cQ,false),(cW,false)] (ae 0)))) τ=some (.int .eu,τ):=fun τ Y=>aA _ (bE (GU (f:=Pt.isCell) (fun p=>df (Ly rfl) rfl) Y .d)) (rO _ _)
 have e3:∀τ:az,aR (ae 0) τ=some .ht->ai bJ (.a3 (.bq (cK [(eX,false),(cO,false),(cn,false),(bL,false),(bW,false),(cQ,true),(cW,false)] (ae 0)))) τ=some (.int .hF,τ):=fun τ Y=>aA _ (bE (GU (f:=Pt.isOut) (fun p=>df (Hl rfl) rfl) Y .d)) (rO _ _)
 refine Lp (τ:=[s .y,.e .du,.e .eu,.e .hF]) rfl ?_
 show fz eX cO cn bL bW cQ cW [s .y,none,none,none]=_
 unfold fz
 rw [aW (dv (τ2:=[s .y,.e .du,none,none]) (e1 _ rfl) rfl),aW (dv (τ2:=[s .y,.e .du,.e .eu,none]) (e2 _ rfl) rfl),
  aW (dv (τ2:=[s .y,.e .du,.e .eu,.e .hF]) (e3 _ rfl) rfl),
  aW (cZ (ja (JQ (.ae (rO _ _)) .d) (ja (JQ rfl (by have:=h.cells;omega)) (ja (JQ rfl (by have:=h.ins;omega)) (JQ rfl (by have:=h.outs;omega))))))]
 exact cZ (ja (Lq rfl h.ins.1) (Lq rfl h.outs.1))
section
variable {α:Type}{φ:α->T}{E:α->az}{f:α->Bool}{P:az->Prop}{fg:FG}{ft:FT}
theorem ir {g:α->T}{fe:FE}(L:∀τ x,P τ->fg (φ x) τ=some (E x))(j:∀x,P (E x))(hs:∀x,bF (E x)=true):∀(l:List α) (τ:az) (acc:List T),.g2->(∀x∈l,f x=true->fe (E x)=some (g x,E x))->P τ->acc.length+l.length≤sizeLine->dG fg ft fe .jl τ acc=some (acc++(l.filter f).map g)
 |[],τ,acc,_,_,_,_=>by simp [dG]
 |x::l,τ,acc,Y,he,hp,hl=>by
  have i:.dd:=hl
  have c:=fun z hz=>Y z (zad x hz)
  have d:=fun z hz=>he z (zad x hz)
  rw [zaf,dG,L τ x hp,zaa,Y x zae,zaa]
  cases h:f x with
  |true =>
   rw [.e8,he x zae h,zaa,.al ⟨hs x,.d⟩,ir L j hs l _ _ c d (j x) .b4,zaV h,zaf,za5]
   rfl
  |false =>
   rw [if_neg .f,.al (hs x)]
   dsimp only
   rw [ir L j hs l _ _ c d (j x) .d,.ax (by simp [h])]
theorem nO {g:α->O}{fe:pQ}(L:∀τ x,P τ->fg (φ x) τ=some (E x))(j:∀x,P (E x))(hs:∀x,bF (E x)=true):∀(l:List α) (τ:az) (acc:List O),.g2->(∀x∈l,f x=true->fe (E x)=some (g x,E x))->P τ->acc.length+l.length≤sizeLine->gQ fg ft fe .jl τ acc=some (acc++(l.filter f).map g)
 |[],τ,acc,_,_,_,_=>by simp [gQ]
 |x::l,τ,acc,Y,he,hp,hl=>by
  have i:.dd:=hl
  have c:=fun z hz=>Y z (zad x hz)
  have d:=fun z hz=>he z (zad x hz)
  rw [zaf,gQ,L τ x hp,zaa,Y x zae,zaa]
  cases h:f x with
  |true =>
   rw [.e8,he x zae h,zaa,.al ⟨hs x,.d⟩,nO L j hs l _ _ c d (j x) .b4,zaV h,zaf,za5]
   rfl
  |false =>
   rw [if_neg .f,.al (hs x)]
   dsimp only
   rw [nO L j hs l _ _ c d (j x) .d,.ax (by simp [h])]
theorem jU {k:α->List Nat}{g:α->T}{fk fv:FE}(L:∀τ x,P τ->fg (φ x) τ=some (E x))(j:∀x,P (E x))(hs:∀x,bF (E x)=true):∀(l:List α) (τ:az) (ns:.H) (ts:List T),.g2->(∀x∈l,f x=true->fk (E x)=some (tx (k x),E x))->(∀x∈l,f x=true->fv (E x)=some (g x,E x))->P τ->ts.length=ns.length->ns.length+l.length≤900->(ns++(l.filter f).map k).Nodup ->
  jj fg ft fk fv .jl τ (ns.map S,ts)=some ((ns++(l.filter f).map k).map S,ts++(l.filter f).map g)
 |[],τ,ns,ts,_,_,_,_,_,_,_=>by simp [jj]
 |x::l,τ,ns,ts,Y,hk,Z,hp,hn,hl,nd=>by
  rw [zap] at hl
  have c:=fun z hz=>Y z (zad x hz)
  have n:=fun z hz=>hk z (zad x hz)
  have i:=fun z hz=>Z z (zad x hz)
  rw [zaf,jj,L τ x hp,zaa,Y x zae,zaa]
  cases h:f x with
  |true =>
   rw [zaV h,zaf] at nd ⊢
   have d:S (k x)∉ns.map S:=by
    rw [tK]
    intro z
    exact (zaS.mp nd).2.2 _ z _ zae rfl
   rw [.e8,hk x zae h,zaa]
   dsimp only
   rw [Z x zae h,zaa,if_pos ⟨hs x,bX (by rw [zah];omega)⟩,yE (by rw [zah];exact hn) d]
   have:=jU (k:=k) (g:=g) (fk:=fk) (fv:=fv) L j hs l (E x) (ns++[k x]) (ts++[g x]) c n i (j x) (by rw [zaj,zaj,hn];rfl) .b4 (by rw [za5];exact nd)
   rw [zaP] at this
   rw [show ([S (k x)]:List Str)=[k x].map S from rfl,this]
   simp
  |false =>
   rw [List.filter_cons_of_neg (by simp [h])] at nd ⊢
   rw [if_neg .f,.al (hs x)]
   exact jU L j hs l _ ns ts c n i (j x) hn .d nd
end
theorem yW:∀ls:List .br,pL .ci=some .az
 |[]=>rfl
 |l::ls=>by
  show (rY (tx l)).bind _=_
  rw [show rY (tx l)=some (.str (S l)) from rfl,zaa,yW ls]
  rfl
theorem yL:∀ls:List .br,(∀l∈ls,kR l)->PyData.canLayAll0 .az=true/\PyData.depthAll .az≤0
 |[],_=>⟨rfl,zam _⟩
 |l::ls,h=>by
  obtain⟨h1,h2⟩:=yL ls fun x hx=>h x (zad _ hx)
  refine⟨?_,?_⟩
  ·simp only [List.map_cons,PyData.canLayAll0,h1,Bool.and_true,PyData.canLay0]
   exact SU (h l zae)
  ·simp only [List.map_cons,PyData.depthAll,PyData.depth]
   exact Nat.max_le.mpr ⟨zam _,h2⟩
theorem Gm (n:.D)(ls:.H):(ls.map fun l=>PyData.str (S l)).any (fun y=>PyData.eqv y (.str (S n)))=decide (n∈ls):=by
 rw [List.any_map,zbD,List.any_eq_true,decide_eq_true_eq]
 constructor
 ·rintro ⟨l,hl,e⟩
  have:(S l == S n)=true:=by simpa [PyData.eqv] using e
  rw [beq_iff_eq,LX] at this
  rwa [<- this]
 ·intro h
  refine⟨n,h,?_⟩
  simp [PyData.eqv]
theorem Dt {neg:Bool}{n:.D}{ls:.H}(hn:kR n)(h:∀l∈ls,kR l):JJ neg (tx n) (bu ls)=some (.bl (if neg then !decide (n∈ls) else decide (n∈ls))):=by
 obtain⟨h1,h2⟩:=yL ls h
 unfold JJ
 rw [show rY (tx n)=some (.str (S n)) from rfl,zaa,show rY (bu ls)=(pL .ci).map PyData.list from rfl,yW,Option.map_some,zaa]
 show (some .az).bind _=_
 have hs:SeqAt.shaped (.list .az)=true:=by
  unfold SeqAt.shaped
  have g1:(PyData.list .az).canLay0=true:=by simp only [PyData.canLay0,h1]
  have g2:(PyData.list .az).depth≤64:=by
   simp only [PyData.depth]
   exact zaz (Nat.add_le_add_right h2 1) (by decide:0+1≤64)
  rw [g1,decide_eq_true g2]
  rfl
 rw [zaa,.al ⟨qw hn,hs⟩,Gm]
theorem su (c:Nat->Nat->Bool):∀k,argBest c k≤k
 |0=>zam _
 |k+1=>by
  rw [argBest.eq_2]
  split
  ·exact zam _
  ·exact Nat.le_succ_of_le (su c k)
theorem MI {ls:.H}(h:ls≠[]):∃m∈ls,jC [bu ls]=some (tx m):=by
 have hl:0<ls.length:=List.length_pos_iff.mpr h
 have e:jC [bu ls]=some (.str (HD .h3)):=by
  show (strsOf .ci).bind _=_
  rw [pE,zaa,.al (by rw [zah];exact hl)]
 have hi:argBest (Qj .h3) ((ls.map S).length-1)<(ls.map S).length:=by
  have:=su (Qj .h3) ((ls.map S).length-1)
  rw [zah] at this ⊢
  omega
 have hm:HD .h3∈ls.map S:=by
  unfold HD
  exact getD_mem hi
 obtain⟨m,h1,h2⟩:=zai.mp hm
 exact⟨m,h1,by rw [e,<- h2]⟩
theorem sub_len {α:Type}:∀{a b:List α},a.Nodup->(∀x∈a,x∈b)->a.length≤b.length
 |[],_,_,_=>zaU _
 |x::a,b,hn,h=>by
  obtain⟨s,t,rfl⟩:=List.append_of_mem (h x zae)
  have l:=zaB.mp hn
  have:=sub_len (b:=s++t) l.2 fun z hz=>by
   have j:=h z .hZ
   rcases zaA.mp j with q | q
   ·exact zbd _ q
   ·rcases zao.mp q with q | q
    ·subst q;exact absurd hz l.1
    ·exact zat _ q
  rw [zaj] at this
  rw [zap,zaj,zap]
  omega
theorem zH {α:Type}(l:List α):l.filter (fun _=>true)=l:=zbE.mpr fun _ _=>rfl
noncomputable def Pt.nam:Pt->List Nat
 | .inp n=>n
 | .cell n _=>n
 | .gain n _ _=>n
 | .sum n _=>n
 | .out _=>[]
theorem lY {p:Pt}(h:p.inner=true):p.nm=some p.nam:=by cases p<;>first | rfl | cases h
theorem wq {p:Pt}(h:p.inner=true)(ho:p.Ok):kR p.nam:=by
 cases p with
 |gain n q w=>exact ho.1.asc
 |sum n ts=>exact ho.1.asc
 |_=>cases h
abbrev bp (ps:.aC):List Pt:=ps.filter Pt.inner
abbrev nz (ps:.aC):List .br:=(bp ps).map Pt.nam
theorem tf:∀ps:List Pt,(bp ps).filterMap Pt.nm=nz ps
 |[]=>rfl
 |p::ps=>by
  unfold nz bp
  cases h:p.inner with
  |true =>
   rw [zaV h,zbe (lY h),zaf]
   congr 1
   exact tf ps
  |false =>
   rw [List.filter_cons_of_neg (by simp [h])]
   exact tf ps
theorem lX {ps:.aC}{r:.bI}(h:.fy):(nz ps).Nodup:=by
 rw [<- tf]
 exact List.Sublist.nodup ((List.filter_sublist (l:=ps) (p:=Pt.inner)).filterMap Pt.nm) h.nd
abbrev D1 (ps:.aC):T:=.dct ((nz ps).map S) ((bp ps).map Pt.obj)
def Wp (ps:.aC)(p:Pt):List .br:=p.ws.filter fun w=>decide (w∈nz ps)
abbrev D2 (ps:.aC):T:=.dct ((nz ps).map S) ((bp ps).map fun p=>bu .iw)
theorem qi {f:Pt->List Nat}{g:Pt->T}:∀l:List Pt,fX ((l.map f).map S) (l.map g)=l.map fun p=>.tup [tx (f p),g p]
 |[]=>rfl
 |p::l=>by
  rw [zaf,zaf,zaf,zaf,fX,qi l]
theorem Ph (p:Pt):bU .ab [s p.obj]=some (p.inner,[s p.obj]):=by
 refine df (aA [p.obj,.tup [.ptr bL,.ptr bW]] (cT rfl (jL .cg)) (t:=.bl p.inner) ?_) rfl
 cases p<;>rfl
theorem R8 {ps:.aC}{r:.bI}(h:.fy):jk 1 [] (.am 0) (ah 0) (bU .ab) .hQ (ae 0) .ev=some (D1 ps,.ev):=by
 have e:=jU (φ:=Pt.obj) (E:=fun p=>[s p.obj]) (f:=Pt.inner) (P:=fun τ=>∃u,τ=[u]) (fg:=ah 0) (k:=Pt.nam) (g:=Pt.obj) (ft:=bU .ab) (fk:=cY [cO,cn,bL,bW] "name" (ae 0)) (fv:=ae 0)
  (fun τ p ⟨u,e⟩=>by rw [e];rfl) (fun p=>⟨_,rfl⟩) (fun p=>rfl) ps [none] [] [] (fun p _=>Ph p) (fun p _ hp=>kg (lY hp) rfl) (fun p _ _=>rfl) .ag rfl (by have:=h.len;simp;omega) (by rw [List.nil_append];exact lX h)
 unfold jk
 rw [show aR (ae 0) .ev=some (ps.map Pt.obj,.ev) from rfl,zaa]
 show (if bF [none]=true then (jj _ _ _ _ .bb [none] ([],[])).bind _ else none)=_
 rw [if_pos (show bF [none]=true from rfl),show (([],[]):DS)=(([]:List .br).map S,[]) from rfl,e]
 rfl
theorem R9 {ps:.aC}{r:.bI}(h:.fy):jk 2 [1] (iY (ae 1)) .cr aO (ae 0) (.aZ (.ao 1)) .eN=some (D2 ps,.eN):=by
 have Z:∀p∈bp ps,bf 1 [2] (aR (.ao 1)) (ah 0) (bR .cj) (ae 0) [s .f9,s p.obj,.cu]=some (bu .iw,[s .f9,s p.obj,.cu]):=fun p hp=>by
  have t:=(zaF.mp hp).1
  refine bY (ts:=p.ws.map tx) ?_ rfl rfl ?_
  ·unfold aR
   rw [yZ (h.ok p t) rfl]
   rfl
  ·have hw:p.ws.length≤5:=by
    have:=h.ok p t
    cases p with
    |sum n ts=>have:=this.2.1;simp only [Pt.ws,List.length_map];omega
    |_=>exact zag rfl
   have:=ir (φ:=tx) (E:=fun w=>[s (tx w),s (D1 ps)]) (f:=fun w=>decide (w∈nz ps)) (P:=fun τ=>∃u,τ=[u,.cu]) (fg:=ah 0) (g:=tx) (ft:=bR .cj) (fe:=ae 0)
    (fun τ w ⟨u,e⟩=>by rw [e];rfl) .iY (fun w=>rfl) p.ws [none,.cu] [] (fun w _=>eA (aS rfl rfl (by
     show some (T.bl (xor false (fQ ((nz ps).map S) (S w))))=_
     rw [Bool.false_xor]
     congr 2
     rw [Bool.eq_iff_iff,jB,decide_eq_true_eq,tK]))) (fun w _ _=>rfl) .ag .ay
   exact this
 have e:=jU (φ:=fun p:Pt=>T.tup [tx p.nam,p.obj]) (E:=fun p=>[s .f9,s p.obj,s (D1 ps)]) (f:=fun _=>true) (P:=fun τ=>∃u v,τ=[u,v,.cu]) (fg:=cu (.c 0 1)) (k:=Pt.nam) (g:=fun p=>bu .iw) (ft:=aO) (fk:=ae 0) (fv:=bf 1 [2] (aR (.ao 1)) (ah 0) (bR .cj) (ae 0))
  (fun τ p ⟨u,v,e⟩=>by rw [e];rfl) (fun p=>⟨_,_,rfl⟩) (fun p=>rfl) (bp ps) [none,none,.cu] [] [] (fun p _=>rfl) (fun p _ _=>rfl) (fun p hp _=>Z p hp) ⟨_,_,rfl⟩ rfl (by have:=h.len;have:(bp ps).length≤ps.length:=List.length_filter_le ..;simp;omega) (by rw [List.nil_append,zH];exact lX h)
 unfold jk
 have hi:iY (ae 1) .eN=some ((bp ps).map fun p=>T.tup [tx p.nam,p.obj],.eN):=by
  show some (fX ((nz ps).map S) ((bp ps).map Pt.obj),_)=_
  rw [qi]
 rw [hi,zaa]
 show (if bF [none,none,.cu]=true then (jj _ _ _ _ ((bp ps).map fun p=>T.tup [tx p.nam,p.obj]) [none,none,.cu] ([],[])).bind _ else none)=_
 rw [if_pos (show bF [none,none,.cu]=true from rfl),show (([],[]):DS)=(([]:List .br).map S,[]) from rfl,e,zH]
 rfl
abbrev Ll:List T->Option O:=Jx 2 2 ij
def JH (ps:.aC)(c:.H)(p:Pt):Bool:=!decide (p.nam∈c)&&(Wp ps p).all fun w=>decide (w∈c)
def free (ps:.aC)(c:.H):List .br:=((bp ps).filter (JH ps c)).map Pt.nam
theorem EE (f:List Nat->Bool):∀l:List .br,mZ [.lst (l.map fun w=>T.bl (f w))]=some (.bl (l.all f)):=fun l=>by
 have e:∀l:List .br,boolsOf (l.map fun w=>T.bl (f w))=some (l.map f):=by
  intro l
  induction l with
  |nil=>rfl
  |cons a l A =>
   show (boolsOf (l.map fun w=>T.bl (f w))).bind _=_
   rw [A]
   rfl
 show (boolsOf _).bind _=_
 rw [e l]
 show some (T.bl ((l.map f).all id))=_
 rw [zbS]
 rfl
theorem NX {ps:.aC}{r:.bI}(h:.fy){p:Pt}(hp:p∈ps):∀w∈p.ws,kR w:=by
 intro w B
 have ho:=h.ok p hp
 cases p with
 |inp n=>cases B
 |cell n v=>rw [zac.mp B];exact ho.2.asc
 |gain n q v=>rw [zac.mp B];exact ho.2.1.asc
 |out v=>rw [zac.mp B];exact qV.asc ho
 |sum n ts =>
  obtain⟨t,Y,rfl⟩:=zai.mp B
  exact (ho.2.2 t Y).asc
theorem OZ {ps:.aC}{r:.bI}(h:.fy){c:.H}(ho:∀w∈c,kR w):Ll [D2 ps,bu c]=some (.lst .gs):=by
 have k:∀p∈bp ps,gS (bR (.c p9 0 2)) (bU .bh) .bA=some (JH ps c p,.bA):=fun p hp=>by
  obtain⟨i,j⟩:=zaF.mp hp
  have a1:=wq j (h.ok p i)
  have c1:bR (.c p9 0 2) .bA=some (!decide (p.nam∈c),.bA):=eA (.M (Dt (neg:=true) a1 ho))
  have c2:bU .bh .bA=some ((Wp ps p).all fun w=>decide (w∈c),.bA):=by
   refine df (aA _ (bE (bY (ts:=(Wp ps p).map tx) (us:=(Wp ps p).map fun w=>T.bl (decide (w∈c))) rfl rfl rfl ?_)) (EE (fun w=>decide (w∈c)) .iw)) rfl
   have B:(Wp ps p).length≤5:=by
    have e1:(Wp ps p).length≤p.ws.length:=.g6
    have:=h.ok p i
    cases p with
    |sum n ts=>have:=this.2.1;simp only [Pt.ws,List.length_map] at e1;omega
    |_=>exact zaz e1 .dU
   exact cJ (φ:=tx) (g:=fun w=>T.bl (decide (w∈c))) (ρ:=[s (bu c)]) rfl .iw none [] (fun w B=>aS rfl rfl (Dt (neg:=false) (NX h i w (List.mem_filter.mp B).1) ho)) .ay
  unfold JH
  cases U : !decide (p.nam∈c) with
  |true =>
   rw [U] at c1
   rw [oG c1,c2,zbp]
  |false =>
   rw [U] at c1
   rw [vO c1,Bool.false_and]
 have e:=nO (φ:=fun p:Pt=>T.tup [tx p.nam,bu .iw]) (E:=fun p=>[s .f9,s (bu .iw),s (bu c)]) (f:=JH ps c) (P:=fun τ=>∃u v,τ=[u,v,.aJ c]) (fg:=cu (.c 0 1)) (g:=fun p=>O.val .f9) (ft:=gS (bR (.c p9 0 2)) (bU .bh)) (fe:=uT (ae 0))
  (fun τ p ⟨u,v,e⟩=>by rw [e];rfl) (fun p=>⟨_,_,rfl⟩) (fun p=>rfl) (bp ps) [none,none,.aJ c] [] k (fun p _ _=>rfl) ⟨_,_,rfl⟩ (by have:=h.len;have:(bp ps).length≤ps.length:=List.length_filter_le ..;simpa using aQ .d)
 have hi:iY (ae 0) [.fF,.aJ c]=some ((bp ps).map fun p=>T.tup [tx p.nam,bu .iw],[.fF,.aJ c]):=by
  show some (fX ((nz ps).map S) ((bp ps).map fun p=>bu .iw),_)=_
  rw [qi]
 show (if ([D2 ps,bu c]:List T).length=2 then ij [.fF,.aJ c] else none)=_
 rw [if_pos (show ([D2 ps,bu c]:List T).length=2 from rfl)]
 unfold ij Dh
 rw [show nR 2 [1] (iY (ae 0)) .cr (gS (bR (.c p9 0 2)) (bU .bh)) (uT (ae 0)) [.fF,.aJ c]=some (.lst (((bp ps).filter (JH ps c)).map fun p=>O.val .f9),[.fF,.aJ c]) by
  unfold nR
  rw [hi,zaa]
  show (if bF [none,none,.aJ c]=true then (gQ _ _ _ ((bp ps).map fun p=>T.tup [tx p.nam,bu .iw]) [none,none,.aJ c] []).bind _ else none)=_
  rw [if_pos (show bF [none,none,.aJ c]=true from rfl),e]
  rfl]
 unfold free
 rw [zay]
 rfl
abbrev uV (ps:.aC)(c:.H)(x:.aN):az:=[s .y,.cu,.fF,.t (c.map tx),x]
def Ri:FE:=pY 3 (lT Ll (.v 2 3))
theorem DA {ps:.aC}{r:.bI}(h:.fy){c:.H}(ho:∀w∈c,kR w)(x:.aN)(hx:x=none\/∃t,x=s t):Ri (uV ps c x)=some (bu (free ps c),uV ps c x):=by
 have e:lT Ll (.v 2 3) [s .y,.cu,.fF,.aJ c,x]=some (.lst .gs,[s .y,.cu,.fF,.aJ c,x]):=by
  unfold lT
  rw [cT (f:=ae 2) (g:=ae 3) (t:=D2 ps) (u:=bu c) rfl rfl,zaa,OZ h ho]
  rfl
 unfold Ri pY
 show ((lT Ll (.v 2 3) ((hide (uV ps c x)).set 3 (fB (.lst (c.map tx))))).bind _)=_
 rw [show (hide (uV ps c x)).set 3 (fB (.lst (c.map tx)))=[s .y,.cu,.fF,.aJ c,x] by rcases hx with rfl | ⟨t,rfl⟩<;>rfl,e,zaa]
 dsimp only
 rw [show .gs=((free ps c).map S).map fun k=>O.val (.str k) by rw [zay];rfl,wO,zaa,zay]
 rfl
def Rh:FS:=(aL (eY 3 (.d jC 4)) (cj 4 Ri))
theorem zL {ps:.aC}{c:.H}{m:.D}(h:m∈free ps c):m∈nz ps/\m∉c:=by
 obtain⟨p,hp,rfl⟩:=zai.mp h
 obtain⟨h1,h2⟩:=zaF.mp hp
 refine⟨zai.mpr ⟨p,h1,rfl⟩,fun z=>?_⟩
 unfold JH at h2
 rw [decide_eq_true z] at h2
 cases h2
noncomputable def Rd (ps:.aC):List .br->List .br->Prop
 |_,[]=>True
 |d,m::r=>(m∈free ps d/\jC [bu (free ps d)]=some (tx m))/\Rd ps (d++[m]) r
theorem Rd.snoc {ps:.aC}{m:.D}:∀{r d:.H},Rd ps d r->(m∈free ps (d++r)/\jC [bu (free ps (d++r))]=some (tx m))->Rd ps d (r++[m])
 |[],d,_,h=>⟨by simpa using h,trivial⟩
 |x::r,d,h,g=>⟨h.1,Rd.snoc h.2 (by simpa using g)⟩
theorem tJ {α c:Type}{f:α->c}{x y:α}:∀{l:List α},(l.map f).Nodup->x∈l->y∈l->f x=f y->x=y
 |[],_,h,_,_=>by cases h
 |a::l,hn,hx,R,e=>by
  obtain⟨h1,h2⟩:=zaB.mp hn
  rcases zao.mp hx with k | k<;>rcases zao.mp R with g | g
  ·rw [k,g]
  ·rw [k] at e
   exact absurd (e ▸ zai.mpr ⟨y,g,rfl⟩) h1
  ·rw [g] at e
   exact absurd (e ▸ zai.mpr ⟨x,k,rfl⟩) h1
  ·exact tJ h2 k g e
theorem Gs {p:Pt}:∀{l:.aC},(l.map Pt.nam).Nodup->p∈l->EK .hU (l.map Pt.obj) (S p.nam)=some p.obj
 |[],_,h=>by cases h
 |a::l,hn,h=>by
  obtain⟨h1,h2⟩:=zaB.mp hn
  rw [zaf,zaf,zaf,EK]
  rcases zao.mp h with rfl | h
  ·rw [if_pos rfl]
  ·rw [if_neg (fun e=>h1 (by rw [vN e];exact zai.mpr ⟨p,h,rfl⟩)),Gs h2 h]
theorem pick {ps:.aC}:∀c:List .br,(∀w∈c,w∈nz ps)->∃Q:List Pt,(∀p∈Q,p∈bp ps)/\Q.map Pt.nam=c
 |[],_=>⟨[],(fun _ h=>by cases h),rfl⟩
 |w::c,h=>by
  obtain⟨Q,h1,h2⟩:=pick c fun x hx=>h x (zad _ hx)
  obtain⟨p,hp,e⟩:=zai.mp (h w zae)
  exact⟨p::Q,zab.mpr ⟨hp,h1⟩,by rw [zaf,e,h2]⟩
structure QQ (ps Q:.aC):Prop where
 sub:∀p∈Q,p∈bp ps
 all:∀p∈bp ps,p∈Q
 nd:(Q.map Pt.nam).Nodup
 rd:Rd ps [] (Q.map Pt.nam)
theorem xJ {ps:.aC}{r:.bI}(h:.fy){w:.D}(B:w∈nz ps):kR w:=by
 obtain⟨p,hp,rfl⟩:=zai.mp B
 obtain⟨h1,h2⟩:=zaF.mp hp
 exact wq h2 (h.ok p h1)
theorem zT {ps:.aC}{r:.bI}(h:.fy):∀(n:Nat) (c:.H),c.Nodup->(∀w∈c,w∈nz ps)->Rd ps [] c->(nz ps).length<n+c.length->∃d,d.Nodup/\(∀w∈d,w∈nz ps)/\free ps d=[]/\Rd ps [] d/\cP (bU (ae 4)) Rh n (uV ps c (.I c))=some (.nx (uV ps d (s (bu []))))
 |0,c,hn,hs,hr,hf=>by
  have:=sub_len hn hs
  omega
 |n+1,c,hn,hs,hr,hf=>by
  have hl:=sub_len hn hs
  have J:(nz ps).length≤24:=by
   have:=h.len
   have:(bp ps).length≤ps.length:=.g6
   rw [zah]
   omega
  by_cases he:free ps c=[]
  ·refine⟨c,hn,hs,he,hr,?_⟩
   rw [he]
   exact uI (df rfl rfl) (Nat.succ_pos n)
  ·obtain⟨m,hm,e1⟩:=MI he
   obtain⟨W,l⟩:=zL hm
   obtain⟨d,g1,g2,g3,L,z⟩:=zT h n (c++[m]) (zaS.mpr ⟨hn,List.pairwise_singleton ..,fun a ha b hb e=>by
    rw [zac.mp hb] at e
    exact l (e ▸ ha)⟩) (fun w B=>by
    rcases zaA.mp B with B | B
    ·exact hs w B
    ·rw [zac.mp B];exact W) (Rd.snoc hr (by rw [zaO];exact⟨hm,e1⟩)) .b4
   refine⟨d,g1,g2,g3,L,?_⟩
   have hB:Rh (uV ps c (.I c))=some (.nx (uV ps (c++[m]) (s (bu (free ps (c++[m])))))):=by
    unfold Rh
    have a1:=oH (i:=3) (f:=ai jC (bH 4)) (τ:=uV ps c (.I c)) (ts:=c.map tx) (t:=tx m) rfl (.ae e1) (bX (by rw [zah];omega))
    rw [show (uV ps c (.I c)).set 3 (.n (c.map tx++[tx m]))=uV ps (c++[m]) (.I c) by unfold uV;rw [List.map_append];rfl] at a1
    rw [aW a1]
    exact dv (DA h (fun w B=>by
     rcases zaA.mp B with B | B
     ·exact xJ h (hs w B)
     ·rw [zac.mp B];exact xJ h W) _ .jn) rfl
   have U:bU (ae 4) (uV ps c (.I c))=some (true,uV ps c (.I c)):=by
    refine df rfl ?_
    show some (!((free ps c).map tx).isEmpty)=_
    cases hq:free ps c with
    |nil=>exact absurd hq he
    |cons a b=>rfl
   rw [uJ U hB,z]
theorem Bt {ps:.aC}{r:.bI}(h:.fy){c:.H}(hf:free ps c=[]):∀(n:Nat) (p:Pt),p∈bp ps->r p.nam=n->p.nam∈c:=by
 intro n
 induction n using Nat.strongRecOn with
 |ind n A =>
  intro p hp hr
  obtain⟨h1,h2⟩:=zaF.mp hp
  by_cases hz:p.nam∈c
  ·exact hz
  ·exfalso
   have B:∀w∈Wp ps p,w∈c:=fun w B=>by
    obtain⟨i,K⟩:=zaF.mp B
    obtain⟨q,hq,rfl⟩:=zai.mp (of_decide_eq_true K)
    have:=h.rk p h1 h2 p.nam (lY h2) q.nam i
    exact A (r q.nam) .d q hq rfl
   have G:JH ps c p=true:=by
    unfold JH
    rw [decide_eq_false hz,Bool.not_false,zbp,zbR]
    exact fun w d=>decide_eq_true (B w d)
   have:p.nam∈free ps c:=zai.mpr ⟨p,zaF.mpr ⟨hp,G⟩,rfl⟩
   rw [hf] at this
   cases this
abbrev QU:List T->Option T:=cy 5 1 (jR 100 eX cO cn bL bW cQ cW Ll sS xo xp xr xq)
theorem Pf {ps:.aC}{r:.bI}(h:.fy):∃Q,QQ ps Q/\QU [.lst .bb]=some (.lst (Q.map Pt.obj)):=by
 have J:(nz ps).length≤24:=by
  have:=h.len
  have:(bp ps).length≤ps.length:=.g6
  rw [zah]
  omega
 obtain⟨ord,g1,g2,g3,L,z⟩:=zT h 100 [] zbl (fun w B=>by cases B) trivial (by rw [List.length_nil];omega)
 have hp:∀w∈nz ps,w∈ord:=fun w B=>by
  obtain⟨p,hp,rfl⟩:=zai.mp B
  exact Bt h g3 _ p hp rfl
 have hlen:=sub_len (lX h) hp
 have c:=sub_len g1 g2
 obtain⟨Q,q1,q2⟩:=pick ord g2
 subst q2
 refine⟨Q,⟨q1,fun p h1=>?_,g1,L⟩,cw rfl ?_⟩
 ·obtain⟨q,hq,e⟩:=zai.mp (hp p.nam (zai.mpr ⟨p,h1,rfl⟩))
  rw [<- tJ (lX h) (q1 q hq) h1 e]
  exact hq
 generalize ho:Q.map Pt.nam=ord at *
 show jR 100 eX cO cn bL bW cQ cW Ll sS xo xp xr xq .ev=_
 have e:jR 100 eX cO cn bL bW cQ cW Ll sS xo xp xr xq=(aL (cj 1 (jk 1 [] (.am 0) (ah 0) (bU .ab) .hQ (ae 0)))
  (aL (cj 2 (jk 2 [1] (iY (ae 1)) .cr aO (ae 0) (.aZ (.ao 1))))
  (aL (bN 3 ao) (aL (cj 4 Ri) (aL (cP (bU (ae 4)) Rh 100)
  (aL (cG (bR .g4) gi bK)
  (bo (.an 3 (.c qL 1 0))))))))):=rfl
 rw [e,aW (dv (τ2:=.eN) (R8 h) rfl),aW (dv (τ2:=[s .y,.cu,.fF,none,none]) (R9 h) rfl),
  aW (show bN 3 ao [s .y,.cu,.fF,none,none]=some (.nx (uV ps [] none)) from rfl),aW (dv (τ2:=uV ps [] (s (bu (free ps [])))) (DA h (fun w B=>by cases B) none .bc) rfl),aW z]
 have Z:nv 3 (.d bJ 3) (uV ps ord (s (bu [])))=some (.int (ord.length:Nat),uV ps ord (s (bu []))):=by
  unfold nv
  show ((ai bJ (bH 3) .hN).bind _)=_
  rw [aA [bu ord] .aR (jd (ls:=ord)),zaa]
  rfl
 have U:bR .g4 (uV ps ord (s (bu [])))=some (false,uV ps ord (s (bu []))):=eA (aS Z (aA [D1 ps] .aR (show oN [D1 ps]=some (.int ((nz ps).map S).length) from rfl)) (by
  show some (.be ((ord.length:Int)<(((nz ps).map S).length:Nat)))=_
  rw [zah,.eK]))
 rw [aW (cZ U)]
 refine cv (τ':=.hN) ?_
 unfold bf
 rw [show aR (ae 3) (uV ps ord (s (bu [])))=some (ord.map tx,.hN) from rfl,zaa]
 show (if bF [none,.cu]=true then (dG _ _ _ (ord.map tx) [none,.cu] []).bind _ else none)=_
 rw [if_pos (show bF [none,.cu]=true from rfl),show ord.map tx=Q.map fun p=>tx p.nam by rw [<- ho,List.map_map];rfl,cJ (φ:=fun p:Pt=>tx p.nam) (g:=Pt.obj) (ρ:=[s (D1 ps)]) rfl Q none [] (fun p hq=>aS rfl rfl (Gs (lX h) (q1 p hq))) (by rw [<- ho,List.length_map] at c;simpa using aQ .d)]
 rfl
theorem BQ {t:FS}{c:.iH}{x:Addr}{τ τ1:az}{ns:.U}{us:List T}(h:t τ=some (.nx τ1))(ha:bF τ1=true)(h0:τ1[0]? = some (fB (.ptr x))):Fg t c x τ ns us=c x τ1 ns us:=by
 unfold Fg
 rw [h,zaa]
 dsimp only
 rw [if_pos ha,h0]
 exact .e8
theorem De {f:FE}{τ τ':az}{t:T}(h:f τ=some (t,τ')):wg f τ=some (.nx τ'):=by
 unfold wg
 rw [h]
 rfl
abbrev Rf:List T->Option uN:=dI 3 1 (dM eX cO cn bL bW cQ cW Jz Q1 QZ QU)
noncomputable abbrev CJ:List Str:=.jc++[Str.ofString "whole"]++[Str.ofString "all_parts"]++[Str.ofString "in_parts"]++[Str.ofString "cell_parts"]++[Str.ofString "out_parts"]++[Str.ofString "inner_parts"]
theorem UA:¬ Str.ofString "all_parts"∈(.jc++[Str.ofString "whole"]:List Str):=.c
theorem UB:¬ Str.ofString "in_parts"∈(.jc++[Str.ofString "whole"]++[Str.ofString "all_parts"]:List Str):=.c
theorem UC:¬ Str.ofString "cell_parts"∈(.jc++[Str.ofString "whole"]++[Str.ofString "all_parts"]++[Str.ofString "in_parts"]:List Str):=.c
theorem UD:¬ Str.ofString "out_parts"∈(.jc++[Str.ofString "whole"]++[Str.ofString "all_parts"]++[Str.ofString "in_parts"]++[Str.ofString "cell_parts"]:List Str):=.c
theorem UE:¬ Str.ofString "inner_parts"∈(.jc++[Str.ofString "whole"]++[Str.ofString "all_parts"]++[Str.ofString "in_parts"]++[Str.ofString "cell_parts"]++[Str.ofString "out_parts"]:List Str):=.c
theorem GS {f:Pt->Bool}{ft:FT}{ps:.aC}{τ:az}(h1:∀p,ft [s p.obj]=some (f p,[s p.obj]))(h:aR (ae 2) τ=some .ht)(hl:ps.length≤900):bf 1 [] (.am 2) (ah 0) ft (ae 0) τ=some (.lst ((ps.filter f).map Pt.obj),τ):=
 bY h rfl rfl (oM (ρ:=[]) rfl h1 ps none [] .ay .bc)
theorem QH {ps:.aC}{r:.bI}(h:.fy):∃Q,QQ ps Q/\Rf [tx .bB]=some (CJ,[tx .bB,.tup .bb,.tup ((ps.filter Pt.isIn).map Pt.obj),.tup ((ps.filter Pt.isCell).map Pt.obj),.tup ((ps.filter Pt.isOut).map Pt.obj),.tup (Q.map Pt.obj)]):=by
 have hl:=h.len
 have h0:ps≠[]:=fun e=>by
  have:=h.ins.1
  rw [e] at this
  simp at this
 obtain⟨Q,d,g⟩:=Pf h
 refine⟨Q,d,wa ⟨rfl,fun x=>?_⟩⟩
 show dM eX cO cn bL bW cQ cW Jz Q1 QZ QU x [.gZ,.s .bB,none] [] []=_
 unfold dM
 rw [BQ (τ1:=[.gZ,.s .bB,s .y]) (dv (.ae (Np h0 h.ok hl)) rfl) rfl rfl,
  BQ (τ1:=[.gZ,.s .bB,s .y]) (De (.ae (Qe h))) rfl rfl,
  BQ (τ1:=[.gZ,.s .bB,s .y]) (De (.ae (Qa h))) rfl rfl,
  fH (t:=tx .bB) rfl rfl ⟨zan,.e⟩ rfl,
  fH (t:=.tup .bb) (.ae rfl) rfl ⟨UA,zag rfl⟩ rfl,
  fH (t:=.tup ((ps.filter Pt.isIn).map Pt.obj)) (aA _ (bE (GS (f:=Pt.isIn) (fun p=>df (LA rfl) rfl) rfl .d)) rfl) rfl ⟨UB,zag rfl⟩ rfl,
  fH (t:=.tup ((ps.filter Pt.isCell).map Pt.obj)) (aA _ (bE (GS (f:=Pt.isCell) (fun p=>df (Ly rfl) rfl) rfl .d)) rfl) rfl ⟨UC,zag rfl⟩ rfl,
  fH (t:=.tup ((ps.filter Pt.isOut).map Pt.obj)) (aA _ (bE (GS (f:=Pt.isOut) (fun p=>df (Hl rfl) rfl) rfl .d)) rfl) rfl ⟨UD,zag rfl⟩ rfl,
  fH (t:=.tup (Q.map Pt.obj)) (aA _ (bE (.ae g)) rfl) rfl ⟨UE,zag rfl⟩ rfl]
 rfl
theorem iX {f:FE}{fs:List FE}{a b:.D}{τ:az}(h:f τ=some (tx b,τ))(hl:.g7):qY (f::fs) (S a) τ=qY fs (S (a++b)) τ:=by
 rw [qY,h,zaa]
 dsimp only
 rw [CW,.al (by rw [cm,zaj];exact aQ hl)]
theorem oA {f:FE}{b:.D}{τ:az}(h:f τ=some (tx b,τ))(hl:b.length≤1000):vJ f τ=some (tx b,τ):=by
 unfold vJ
 rw [h,zaa]
 dsimp only
 rw [if_pos (by rw [cm];exact aQ hl)]
theorem Dq {fs:List FE}{r:.D}{τ:az}(h:qY fs (S []) τ=some (S r,τ)):zG fs τ=some (tx r,τ):=by
 unfold zG
 rw [show Str.empty=S [] from rfl,h]
 rfl
abbrev Jy:List T->Option T:=cy 1 1 qF
abbrev GB:List T->Option T:=cy 1 1 (vP cO cn bL bW)
abbrev Gz:List T->Option T:=cy 1 1 (qD cO cn bL bW cQ)
abbrev GA:List T->Option T:=cy 1 1 (qE cO cn bL bW cQ Oa)
abbrev GD:List T->Option T:=cy 1 1 (jP cO cn bL bW)
abbrev GC:List T->Option T:=cy 1 1 (sv cn bL cQ)
abbrev RV:List .aE:=[(eX,Jy),(cO,GB),(cn,Gz),(bL,GA),(bW,GD),(cQ,GC)]
noncomputable abbrev dR:Pt->List T->Option T
 | .inp _=>GB
 | .cell _ _=>Gz
 | .gain _ _ _=>GA
 | .sum _ _=>GD
 | .out _=>GC
theorem Mh (p:Pt):ny p.cls RV=some (dR p):=by cases p<;>rfl
theorem SH {p:Pt}(h:p.Ok):dR p [p.obj]=some .gT:=by
 have hl:=Pt.row_len h
 cases p with
 |inp n =>
  have hn:=h.2.1
  refine cw rfl (cv (Dq ?_))
  rw [iX (dH QD _) .f,iX (b:=n) (oA rfl .d) .i]
  simp [qY,Pt.row,Pt.kind,Pt.args,jl]
 |cell n w =>
  have hn:=h.1.2.1
  have hw:=h.2.2.1
  refine cw rfl (cv (Dq ?_))
  rw [iX (dH La _) .f,iX (b:=n) (oA rfl .d) .i,iX .jC .i,iX (b:=w) (oA rfl .d) .i]
  simp [qY,Pt.row,Pt.kind,Pt.args,jl]
 |gain n q w =>
  have hn:=h.1.2.1
  have hw:=h.2.1.2.1
  have hs:=yN h.2.2
  refine cw rfl (cv (Dq ?_))
  rw [iX (dH En _) .f,iX (b:=n) (oA rfl .d) .i,iX .jC .i,iX (b:=gC q.num q.den) (oA (aA [rS q] .aR (LN (a:=q.num) (b:=q.den) (Nat.lt_of_le_of_lt h.2.2.1 .c) (Nat.lt_of_le_of_lt h.2.2.2 .c))) .d) .i,iX .jC .i,iX (b:=w) (oA rfl .d) .i]
  simp [qY,Pt.row,Pt.kind,Pt.args,jl]
 |out w =>
  have hw:w.length≤8:=h.2.1
  refine cw rfl (cv (Dq ?_))
  rw [iX (dH NO _) .f,iX (b:=w) (oA rfl .d) .i]
  simp [qY,Pt.row,Pt.kind,Pt.args,jl]
 |sum n us =>
  have hk:=h.2.1
  refine .es
  show jP cO cn bL bW .fR=_
  unfold jP
  have U:bf 2 [] (aR .gU) .cr aO .eP .fR=some (bu (us.map kQ),.fR):=by
   refine bY (ts:=us.map gb) rfl rfl rfl ?_
   rw [zay,show us.map (tx ∘ kQ)=[]++us.map fun t=>tx (kQ t) from rfl]
   refine iy (φ:=fun t:Bool×List Nat=>T.int (FF t.1)) (ψ:=fun t=>tx t.2) rfl us none none [] (fun t Y=>?_) .ay
   have hw:=(h.2.2 t Y).2.1
   have c:bR (.a eO 0 1) .gS=some (t.1,.gS):=eA (aS rfl rfl (by cases t.1<;>rfl))
   cases Y:t.1 with
   |true =>
    rw [Y] at c
    refine (zS c).trans ?_
    unfold kQ
    rw [Y]
    rfl
   |false =>
    rw [Y] at c
    refine (Lx c).trans ?_
    unfold kQ
    rw [Y]
    exact oE (dH pK _) rfl .i
  have ha:ar aU (eI (.a .cd .hQ)) (.aa .gU .eP) .fR=some (bu ((Pt.sum n us).kind::(Pt.sum n us).args),.fR):=
   aS (mf (cT (dH lg _) (kg (n:=n) rfl rfl)) .dU) U (by
    rw [oS (by rw [List.length_map,List.length_map];exact aQ .i)]
    rfl)
  exact cv (aS .jC ha (Hr 32 (by have:=(Pt.len_args h).1;rw [zap];omega)))
theorem Qf {p:Pt}(h:p.Ok){fo:FE}{τ τ1:az}(ho:.h9):cR RV "row" fo ao τ=some (tx p.row,τ1):=P6 Sq ho (Mh p) (jm _) (SH h)
mutual
theorem eqv_refl:∀d:PyData,d.canLay0=true->PyData.eqv d d=true
 | .none,_=>by simp [PyData.eqv]
 | .bool _,_=>by simp [PyData.eqv]
 | .int _,_=>by simp [PyData.eqv]
 | .str _,_=>by simp [PyData.eqv]
 | .list xs,h=>by
  simp only [PyData.canLay0] at h
  simp only [PyData.eqv]
  exact eqvAll_refl xs h
 | .tuple xs,h=>by
  simp only [PyData.canLay0] at h
  simp only [PyData.eqv]
  exact eqvAll_refl xs h
 | .dict _,h=>by simp [PyData.canLay0] at h
theorem eqvAll_refl:∀ds:List PyData,PyData.canLayAll0 ds=true->PyData.eqvAll ds ds=true
 |[],_=>by simp [PyData.eqvAll]
 |d::ds,h=>by
  simp only [PyData.canLayAll0,Bool.and_eq_true] at h
  simp only [PyData.eqvAll,eqv_refl d h.1,eqvAll_refl ds h.2,Bool.and_self]
end
def Ed (n:Nat)(t:T):Prop:=∃d,rY t=some d/\d.canLay0=true/\d.depth≤n
theorem yM {n:Nat}:∀{ts:List T},(∀x∈ts,Ed n x)->∃ds,pL ts=some ds/\PyData.canLayAll0 ds=true/\PyData.depthAll ds≤n
 |[],_=>⟨[],rfl,rfl,zaU _⟩
 |t::ts,h=>by
  obtain⟨d,h1,h2,M⟩:=h t zae
  obtain⟨ds,g1,g2,g3⟩:=yM fun x hx=>h x (zad _ hx)
  refine⟨d::ds,by simp only [pL,h1,g1,Option.bind_some],by simp only [PyData.canLayAll0,h2,g2,Bool.and_self],by simp only [PyData.depthAll];omega⟩
theorem rX {n:Nat}{ts:List T}(h:∀x∈ts,Ed n x):Ed (n+1) .iy:=by
 obtain⟨ds,h1,h2,M⟩:=yM h
 exact⟨.tuple ds,by simp only [rY,h1,Option.map_some],by simp only [PyData.canLay0,h2],by simp only [PyData.depth];omega⟩
theorem gz {l:.D}(h:kR l):Ed 0 (tx l):=⟨.str (S l),rfl,SU h,zam _⟩
theorem kM (i:Int):Ed 0 .eQ:=⟨.int i,rfl,rfl,zam _⟩
theorem Ql (q:Rat):Ed 1 (rS q):=rX fun x hx=>by
 simp only [List.mem_cons,List.not_mem_nil,or_false] at hx
 rcases hx with rfl | rfl<;>exact kM _
theorem cmp_self {neg:Bool}{t:T}{n:Nat}(h:Ed n t)(hn:n≤60):zN neg t t=some (.bl (!neg)):=by
 obtain⟨d,h1,h2,M⟩:=h
 have hs:SeqAt.shaped d=true:=by
  unfold SeqAt.shaped
  rw [h2,zbp]
  exact decide_eq_true .d
 unfold zN
 rw [h1,zaa,zaa,.al ⟨hs,hs⟩,eqv_refl d h2]
 cases neg<;>rfl
theorem ne_self {f g:FE}{τ:az}{t:T}{n:Nat}(h:.fH)(h':g τ=some (t,τ))(hs:Ed n t)(hn:n≤60):bR (ar jM f g) τ=some (false,τ):=eA (aS h h' (cmp_self (neg:=true) hs hn))
theorem eq_self {f g:FE}{τ:az}{t:T}{n:Nat}(h:.fH)(h':g τ=some (t,τ))(hs:Ed n t)(hn:n≤60):ar eO f g τ=some (.iG,τ):=aS h h' (cmp_self (neg:=false) hs hn)
theorem Ee {n:Nat}{ts:List T}(h:∀x∈ts,Ed n x):Ed (n+1) .dH:=by
 obtain⟨ds,h1,h2,M⟩:=yM h
 exact⟨.list ds,by simp only [rY,h1,Option.map_some],by simp only [PyData.canLay0,h2],by simp only [PyData.depth];omega⟩
abbrev wo (a b c d e f:T):T:=.obj cW CJ .f6
theorem wf {y:T}{k:Str}{a b c d e f:T}{fo:FE}{τ τ1:az}(hk:qZ k CJ .f6=some y)(h:fo τ=some (wo a b c d e f,τ1)):cY [cW] k fo τ=some (y,τ1):=by
 unfold cY
 rw [h,zaa]
 dsimp only
 rw [.al .hj,hk]
 rfl
theorem Th {a b c d e f:T}:qZ "in_parts" CJ .f6=some c:=.a
theorem Tg {a b c d e f:T}:qZ "cell_parts" CJ .f6=some d:=.a
theorem To {a b c d e f:T}:qZ "out_parts" CJ .f6=some e:=.a
theorem Ti {a b c d e f:T}:qZ "inner_parts" CJ .f6=some f:=.a
theorem LF {p:Pt}(h:p.isCell=true):p.nm=some p.nam:=by cases p<;>first | rfl | cases h
theorem Tq {a b c d e f:T}:qZ "whole" CJ .f6=some a:=.a
theorem Tp {a b c d e f:T}:qZ "all_parts" CJ .f6=some b:=.a
abbrev Hi (ps:.aC):List Pt:=ps.filter Pt.isIn
abbrev fP (ps:.aC):List Pt:=ps.filter Pt.isCell
abbrev Ig (ps:.aC):List Pt:=ps.filter Pt.isOut
abbrev ON:List T->Option T:=cy 1 1 (lK cW)
abbrev OL:List T->Option T:=cy 1 1 (kT cW)
abbrev Of:List T->Option T:=cy 1 1 (nk cW)
abbrev Og:List T->Option T:=cy 1 1 (lJ cW)
abbrev OK:List T->Option T:=cy 1 1 (gJ cW cO cn bL bW)
abbrev OM:List T->Option T:=cy 1 1 (kS cW cO cn bL bW)
theorem PH:¬ Str.ofString "text"∈CJ:=.c
theorem LH:¬ Str.ofString "parts"∈CJ:=.c
theorem PD:¬ Str.ofString "ins"∈CJ:=.c
theorem LG:¬ Str.ofString "outs"∈CJ:=.c
theorem So:¬ Str.ofString "cell_names"∈CJ:=.c
theorem PF:¬ Str.ofString "order"∈CJ:=.c
noncomputable abbrev wT (ps Q:.aC):T:=wo (tx .bB) (.tup .bb) (.tup ((Hi ps).map Pt.obj)) (.tup ((fP ps).map Pt.obj)) (.tup ((Ig ps).map Pt.obj)) (.tup (Q.map Pt.obj))
variable {ps Q:.aC}{r:.bI}
theorem QI:ON [wT ps Q]=some (tx .bB):=cw rfl (cv (wf Tq rfl))
theorem LS:OL [wT ps Q]=some .y:=cw rfl (cv (aA [.tup .bb] (bE (wf Tp rfl)) rfl))
theorem Je:Of [wT ps Q]=some (.ak ((Hi ps).length:Nat)):=cw rfl (cv (aA [.tup ((Hi ps).map Pt.obj)] (bE (wf Th rfl)) (by
 show some (T.int (((Hi ps).map Pt.obj).length:Nat))=_
 rw [zah])))
theorem Jf:Og [wT ps Q]=some (.ak ((Ig ps).length:Nat)):=cw rfl (cv (aA [.tup ((Ig ps).map Pt.obj)] (bE (wf To rfl)) (by
 show some (T.int (((Ig ps).map Pt.obj).length:Nat))=_
 rw [zah])))
theorem OA (hl:(fP ps).length≤900):OK [wT ps Q]=some (.lst ((fP ps).map fun p=>tx p.nam)):=by
 refine cw rfl (cv (bY (ts:=(fP ps).map Pt.obj) (τ:=[s (wT ps Q)]) (by unfold aR;rw [wf Tg rfl];rfl) rfl rfl ?_))
 exact cJ (φ:=Pt.obj) (g:=fun p=>tx p.nam) (ρ:=[]) rfl (fP ps) none [] (fun p hp=>kg (LF (List.mem_filter.mp hp).2) rfl) .ay
theorem LJ (d:QQ ps Q)(hl:Q.length≤900):OM [wT ps Q]=some .aG:=by
 refine cw rfl (cv (bY (ts:=Q.map Pt.obj) (τ:=[s (wT ps Q)]) (by unfold aR;rw [wf Ti rfl];rfl) rfl rfl ?_))
 rw [zay]
 exact cJ (φ:=Pt.obj) (g:=fun p=>tx p.nam) (ρ:=[]) rfl Q none [] (fun p hp=>kg (lY (List.mem_filter.mp (d.sub p hp)).2) rfl) .ay
abbrev Ln:List T->Option T:=cy 1 1 ig
theorem Pr {p:Pt}(h:p.Ok):Ln [p.law]=some (.tup (p.ws.map tx)):=by
 refine .es
 show ig [s p.law]=_
 unfold ig
 cases p with
 |inp n =>
  refine uv ?_
  rw [BR .ey]
  rfl
 |sum n us =>
  have hk:=h.2.1
  rw [aW (cZ .ey)]
  refine uv ?_
  rw [BR .ez]
  refine cv (aA [.lst (us.map fun t=>tx t.2)] (bE (bY (ts:=us.map gb) rfl rfl rfl ?_)) ?_)
  ·exact iy (φ:=fun t:Bool×List Nat=>T.int (FF t.1)) (ψ:=fun t=>tx t.2) (g:=fun t=>tx t.2) rfl us none none [] (fun t Y=>rfl) .ay
  ·show some (T.tup (us.map fun t=>tx t.2))=some (.tup ((us.map (·.2)).map tx))
   rw [zay]
   rfl
 |cell n w =>
  rw [.a9 .ey,.a9 .ez]
  rfl
 |gain n q w =>
  rw [.a9 .ey,.a9 .ez]
  rfl
 |out w =>
  rw [.a9 .ey,.a9 .ez]
  rfl
abbrev OD:List T->Option T:=cy 2 1 (oJ eX cO cn bL bW cQ cW)
abbrev Lc:List .br:=[[105,110],[99,101,108,108],[103,97,105,110],.i5,[111,117,116]]
def Se (p:Pt):List T:=Lc.map (fun w=>T.bl (decide (p.kind=w)))++[.bl true]
theorem Po (p:Pt):OD [p.obj]=some (.lst (Se p)):=by cases p<;>kernel_rfl
noncomputable abbrev OH:List T->Option T:=cy 3 2 (eS eX cO cn bL bW cQ cW OD Lm Ln Jy GB Gz GA GD GC sS xo xp xr xq)
theorem IL (b:Bool):Ed 0 .f0:=⟨.bool b,rfl,rfl,zam _⟩
abbrev Uk:T:=.lst (Lc.map tx)
abbrev uP (p:Pt):az:=[s p.obj,s p.law,s Uk]
theorem Su {p:Pt}(h:p.Ok):(.D (.d OD 0) (ar aU (.an 2 (ar eO .dl (ae 0))) (eI (.a3 (fC .bE))))) .eS=some (false,uP p):=by
 have U:bf 1 [1] (.am 2) (ah 0) aO (ar eO .dl (ae 0)) .eS=some (.lst (Lc.map fun w=>T.bl (decide (p.kind=w))),uP p):=by
  unfold bf
  rw [show aR (ae 2) .eS=some (Lc.map tx,uP p) from rfl,zaa]
  dsimp only
  rw [if_pos (by rfl)]
  have e:=cJ (φ:=tx) (fe:=ar eO .dl (ae 0)) (g:=fun w=>T.bl (decide (p.kind=w))) (ρ:=[s p.law]) rfl Lc none [] (fun w B=>aS (.M (DJ p)) rfl (xB (ma p) (by
   simp only [List.mem_cons,List.not_mem_nil,or_false] at B
   rcases B with rfl | rfl | rfl | rfl | rfl<;>exact nN _ rfl))) .dU
  rw [show cI 1 [1] (frzAll [1] (uP p))=[none,s p.law] from rfl,e]
  rfl
 refine eA (aS (.ae (Po p)) (aS U (mf .aR .dU) (t:=.lst (Se p)) rfl) (cmp_self (neg:=true) (n:=1) (Ee fun x hx=>?_) .e))
 unfold Se at hx
 rcases zaA.mp hx with k | k
 ·obtain⟨w,_,rfl⟩:=zai.mp k
  exact IL _
 ·rw [zac.mp k]
  exact IL _
theorem PR {fa fb:FE}{τ τ':az}(h:fa τ=some (.iG,τ')):BG fa fb τ=some (.iG,τ'):=by
 unfold BG
 rw [h]
 rfl
theorem DU {fa fb:FE}{τ τ':az}(h:fa τ=some (.bl false,τ')):BG fa fb τ=fb τ':=by
 unfold BG
 rw [h]
 rfl
theorem D5 {p:Pt}(h:p.Ok):kR p.row:=fun c U=>(Pt.row_mem h U).2
theorem Ok.wsA {p:Pt}(h:p.Ok):∀w∈p.ws,kR w:=by
 intro w B
 cases p with
 |inp n=>cases B
 |cell n v=>rw [zac.mp B];exact h.2.asc
 |gain n q v=>rw [zac.mp B];exact h.2.1.asc
 |out v=>rw [zac.mp B];exact qV.asc h
 |sum n us =>
  obtain⟨t,Y,rfl⟩:=zai.mp B
  exact (h.2.2 t Y).asc
theorem Nz {p:Pt}(h:p.Ok):Ed 1 (.tup (p.ws.map tx)):=rX fun x hx=>by
 obtain⟨w,hw,rfl⟩:=zai.mp hx
 exact gz (Ok.wsA h w hw)
theorem GW {p:Pt}{b:.V}{k:Str}{t:T}(h:qZ k p.flds p.vals=some t)(U:decide (p.cls∈b)=true){fo:FE}{τ τ1:az}(ho:.h9):cY b k fo τ=some (t,τ1):=by
 unfold cY
 rw [ho,HR,zaa]
 dsimp only
 rw [.al (of_decide_eq_true U),h]
 rfl
def Pt.isG:Pt->Bool | .gain _ _ _=>true | _=>false
def Pt.isS:Pt->Bool | .sum _ _=>true | _=>false
theorem Sa {p:Pt}{fo:FE}{τ τ1:az}(h:.h9):cK [(eX,false),(cO,false),(cn,false),(bL,true),(bW,false),(cQ,false),(cW,false)] fo τ=some (.bl p.isG,τ1):=by
 unfold cK
 rw [h]
 cases p<;>rfl
theorem Sb {p:Pt}{fo:FE}{τ τ1:az}(h:.h9):cK [(eX,false),(cO,false),(cn,false),(bL,false),(bW,true),(cQ,false),(cW,false)] fo τ=some (.bl p.isS,τ1):=by
 unfold cK
 rw [h]
 cases p<;>rfl
def Pt.src:Pt->Bool | .cell _ _=>true | .gain _ _ _=>true | .out _=>true | _=>false
theorem Uc (p:Pt):(.ck) [p.obj,.tup [.ptr cn,.ptr bL,.ptr cQ]]=some (.bl p.src):=by cases p<;>rfl
theorem P5 {p:Pt}(h:p.Ok):OH .i4=some .bE:=by
 refine .es
 show eS eX cO cn bL bW cQ cW OD Lm Ln Jy GB Gz GA GD GC sS xo xp xr xq [s p.obj,s p.law,none]=_
 unfold eS
 have h0:(bN 2 (ag .dt (ag .hw (ag .df (.a .cd .e1))))) [s p.obj,s p.law,none]=some (.nx .eS):=by
  rw [pJ,mK,mL,lg,wR]
  rfl
 have E:bR (ar jM (cR RV "row" (ae 0) ao) (.d Lm 1)) (uP p)=some (false,uP p):=ne_self (Qf h rfl) (.ae (Dg h)) (gz (D5 h)) .e
 have J:bR (ar jM (.ao 0) (.d Ln 1)) (uP p)=some (false,uP p):=ne_self (yZ h rfl) (.ae (Pr h)) (Nz h) .e
 have d3:(gS (bU (.t .ck (dz (ag (fC (.ptr cn)) (.ah bL cQ))))) (.D (cY [cn,bL,cQ] "source" (ae 0)) (ar bI (ae 1) (ar EX (.d bJ 1) (aH 1))))) (uP p)=some (false,uP p):=by
  have hi:bU (.t .ck (dz (ag (fC (.ptr cn)) (.ah bL cQ)))) (uP p)=some (p.src,uP p):=df (aA _ (cT rfl (jL (EA rfl rfl rfl))) (Uc p)) rfl
  cases p with
  |inp n=>exact vO hi
  |sum n us=>exact vO hi
  |cell n w=>rw [oG hi];exact ne_self (t:=tx w) .iS .gK (gz h.2.asc) .e
  |gain n q w=>rw [oG hi];exact ne_self (t:=tx w) .iS .gK (gz h.2.1.asc) .e
  |out w=>rw [oG hi];exact ne_self (t:=tx w) .iS .gK (gz (qV.asc h)) .e
 have z:gS (bU (.q (bL,true) (bW,false))) (.D (cY [bL] "by" (ae 0)) (.J 1 2)) (uP p)=some (false,uP p):=by
  have hi:bU (.q (bL,true) (bW,false)) (uP p)=some (p.isG,uP p):=df (Sa rfl) rfl
  cases p with
  |gain n q w=>rw [oG hi];exact ne_self (t:=rS q) .iS .dP (Ql q) .e
  |_=>exact vO hi
 have j:gS (bU (.q (bL,false) (bW,true))) (.D .gU (.J 1 2)) (uP p)=some (false,uP p):=by
  have hi:bU (.q (bL,false) (bW,true)) (uP p)=some (p.isS,uP p):=df (Sb rfl) rfl
  cases p with
  |sum n us =>
   rw [oG hi]
   refine ne_self (t:=.tup (us.map gb)) (n:=2) .iS .dP (rX fun x hx=>?_) .e
   obtain⟨t,Y,rfl⟩:=zai.mp hx
   refine rX fun y R=>?_
   simp only [List.mem_cons,List.not_mem_nil,or_false] at R
   rcases R with rfl | rfl
   ·exact kM _
   ·exact gz (h.2.2 t Y).asc
  |_=>exact vO hi
 rw [aW h0,.a9 (Su h),.a9 (ja E J),.a9 d3,.a9 (ja z j)]
 have O:ar eO .dl .e1 (uP p)=some (.bl (decide (p.kind=[111,117,116])),uP p):=by
  rw [wR]
  exact aS (.M (DJ p)) rfl (xB (ma p) Gj)
 cases p with
 |out w=>exact cv (PR O)
 |inp n=>exact cv (.G (gz (qV.asc h)))
 |cell n w=>exact cv (.G (gz h.1.asc))
 |gain n q w=>exact cv (.G (gz h.1.asc))
 |sum n us=>exact cv (.G (gz h.1.asc))
theorem JI {n:.D}{ls:.H}(hn:kR n)(h:∀l∈ls,kR l):EV (tx n) (.tup .ci)=some (.au (n∈ls)):=by
 obtain⟨h1,h2⟩:=yL ls h
 unfold EV
 rw [show rY (tx n)=some (.str (S n)) from rfl,zaa,show rY (.tup .ci)=(pL .ci).map PyData.tuple from rfl,yW,Option.map_some,zaa]
 show (some .az).bind _=_
 have hs:SeqAt.shaped (.list .az)=true:=by
  unfold SeqAt.shaped
  have g1:(PyData.list .az).canLay0=true:=by simp only [PyData.canLay0,h1]
  have g2:(PyData.list .az).depth≤64:=by
   simp only [PyData.depth]
   exact zaz (Nat.add_le_add_right h2 1) (by decide:0+1≤64)
  rw [g1,decide_eq_true g2]
  rfl
 rw [zaa,.al ⟨qw hn,hs⟩,Gm]
theorem BS (p:Pt):decide (p.kind∈[[103,97,105,110],.i5])=p.inner:=by cases p<;>rfl
theorem Gr {g:Pt->T}{p:Pt}:∀{l:.aC},(l.map Pt.nam).Nodup->p∈l->EK .hU (l.map g) (S p.nam)=some (g p)
 |[],_,h=>by cases h
 |a::l,hn,h=>by
  obtain⟨h1,h2⟩:=zaB.mp hn
  rw [zaf,zaf,zaf,EK]
  rcases zao.mp h with rfl | h
  ·rw [if_pos rfl]
  ·rw [if_neg (fun e=>h1 (by rw [vN e];exact zai.mpr ⟨p,h,rfl⟩)),Gr h2 h]
theorem C6 {g:Pt->T}{m:.D}:∀{l:.aC},(l.map Pt.nam).Nodup->pW .hU (S m)=((l.filter fun p=>!decide (p.nam=m)).map Pt.nam).map S/\pX .hU (l.map g) (S m)=(l.filter fun p=>!decide (p.nam=m)).map g
 |[],_=>⟨rfl,rfl⟩
 |a::l,hn=>by
  obtain⟨h1,h2⟩:=zaB.mp hn
  obtain⟨i1,i2⟩:=C6 (g:=g) (m:=m) h2
  rw [zaf,zaf,zaf,pW,pX]
  by_cases e:a.nam=m
  ·have hf:(l.filter fun p=>!decide (p.nam=m))=l:=zbE.mpr fun p hp=>by
    rw [decide_eq_false (fun z:p.nam=m=>h1 (by rw [e,<- z];exact zai.mpr ⟨p,hp,rfl⟩))]
    rfl
   rw [.al (by rw [e]),.al (by rw [e]),.ax (by simp [e]),hf]
   exact⟨rfl,rfl⟩
  ·rw [if_neg (fun z=>e (vN z)),if_neg (fun z=>e (vN z)),List.filter_cons_of_pos (by simp [e]),i1,i2]
   exact⟨rfl,rfl⟩
def RA (p:Pt):T:=.tup (p.ws.map tx)
abbrev dI (l:.aC):DS:=((l.map Pt.nam).map S,l.map RA)
abbrev m7 (L O:T)(a:Addr)(j g v:.aN):az:=[s O,s L,s (.ptr a),j,g,v]
theorem pj (L O:T)(a:Addr)(x y z:.aN):fW 2 a (m7 L O a x y z)=true:=zbI a
def Ro:FZ:=(NZ 2 (bR .g5) (CN 2 (.J 3 1) (.d Ln 3)) iN)
theorem LB {p:Pt}{n:.D}(h:p.nm=some n):bI p.law (.ak 1)=some (tx n):=by
 cases p with
 |out w=>cases h
 |_=>cases h;rfl
def iB:List Pt->Option Sl->Option Sl
 |[],x=>x
 |p::ps,_=>iB ps .dW
theorem tD:∀(ps:.aC) (x:.aN),(x=none\/∃t,x=s t)->iB ps x=none\/∃t,iB ps x=s t
 |[],_,h=>h
 |p::ps,_,_=>tD ps _ .jn
theorem DR (L O:T)(a:Addr):∀(ps i:.aC) (j:.aN),(nz (i++ps)).Nodup->(i++ps).length≤900->(∀p∈ps,p.Ok)->kW 2 (ah 3) Ro .cw a (dI (bp i)) (.aP j)=some (dI (bp (i++ps)),m7 L O a (iB ps j) none none)
 |[],i,j,_,_,_=>by rw [zaw];rfl
 |p::ps,i,j,hn,hl,ho=>by
  have e:i++p::ps=.i9++ps:=.f
  have h2:=DR L O a ps .i9 .dW (by rw [<- e];exact hn) (by rw [<- e];exact hl) fun z hz=>ho z .hZ
  have hp:=ho p zae
  have U:bR .g5 (.aP .dW)=some (p.inner,m7 L O a .dW none none):=by
   rw [mL,lg]
   refine eA (aS (.M (DJ p)) (jL (ts:=[[103,97,105,110],.i5].map tx) .cg) ?_)
   rw [JI (ma p) (fun l hl=>by
    simp only [List.mem_cons,List.not_mem_nil,or_false] at hl
    rcases hl with rfl | rfl<;>exact nN _ rfl),BS]
  have hB:Ro a (dI (bp i)) (.aP .dW)=some (dI (bp .i9),m7 L O a .dW none none):=by
   unfold Ro NZ
   rw [U,zaa]
   dsimp only
   rw [if_pos (pj ..)]
   cases hi:p.inner with
   |false =>
    rw [if_neg .e]
    unfold iN bp
    rw [zaM,.ax (by rw [hi];decide)]
    simp
   |true =>
    rw [if_pos rfl]
    have en:bp .i9=bp i++[p]:=by
     unfold bp
     rw [zaM,zaV hi]
     rfl
    have d:S p.nam∉(nz i).map S:=by
     rw [tK]
     intro z
     rw [e] at hn
     have h1:nz (i++[p]++ps)=nz .i9++nz ps:=by
      unfold nz bp
      rw [zaM,zaP]
     rw [h1] at hn
     have:=(zaS.mp hn).1
     unfold nz at this
     rw [en,zaP,zaS] at this
     exact this.2.2 p.nam z p.nam .hj rfl
    unfold CN
    rw [aA _ .aR (Pr hp),zaa]
    dsimp only
    rw [.al (pj ..),show ar bI (ae 3) (aH 1) (.aP .dW)=some (tx p.nam,m7 L O a .dW none none) from aS rfl rfl (LB (lY hi)),zaa]
    dsimp only
    rw [if_pos ⟨pj ..,bX (by
     rw [zah,zah]
     have h1:(bp i).length≤i.length:=.g6
     rw [zaj] at hl
     omega)⟩,yE (by rw [zah,zah,zah]) d,en]
    simp [RA]
  rw [zaf,kW,show ah 3 p.law (.aP j)=some (.aP .dW) from rfl,zaa]
  rw [.al (pj ..),hB,zaa,h2,<- e]
  rfl
def ip (ps:.aC)(d:.H):List Pt:=(bp ps).filter fun p=>!decide (p.nam∈d)
theorem yl {ps:.aC}{d:.H}{w:.D}:w∈(ip ps d).map Pt.nam ↔ w∈nz ps/\w∉d:=by
 constructor
 ·intro h
  obtain⟨p,hp,rfl⟩:=zai.mp h
  obtain⟨h1,h2⟩:=zaF.mp hp
  exact⟨List.mem_map.mpr ⟨p,h1,rfl⟩,by simpa using h2⟩
 ·rintro ⟨h1,h2⟩
  obtain⟨p,hp,rfl⟩:=zai.mp h1
  exact List.mem_map.mpr ⟨p,List.mem_filter.mpr ⟨hp,by simpa using h2⟩,rfl⟩
theorem Hx {ps:.aC}{r:.bI}(h:.fy)(d:.H):((ip ps d).map Pt.nam).Nodup:=List.Sublist.nodup ((List.filter_sublist ..).map _) (lX h)
theorem J4 {ps:.aC}{r:.bI}(h:.fy)(d:.H)(m:.D):(dI .jy).del (S m)=dI (ip ps (d++[m])):=by
 obtain⟨e1,e2⟩:=C6 (g:=RA) (m:=m) (Hx h d)
 have a:((ip ps d).filter fun p=>!decide (p.nam=m))=ip ps (d++[m]):=by
  unfold ip
  rw [List.filter_filter]
  refine List.filter_congr fun p _=>?_
  by_cases h1:p.nam=m<;>by_cases h2:p.nam∈d<;>simp [h1,h2]
 unfold DS.del
 rw [e1,e2,a]
def PJ (ps:.aC)(d:.H)(p:Pt):Bool:=decide ((p.ws.filter fun w=>decide .gg).length=0)
theorem Kf {ps:.aC}{d:.H}:((ip ps d).filter (PJ ps d)).map Pt.nam=free ps d:=by
 unfold free ip
 rw [List.filter_filter]
 congr 1
 refine List.filter_congr fun p _=>?_
 unfold JH Wp
 rw [Bool.and_comm]
 congr 1
 unfold PJ
 rw [zbD,decide_eq_true_eq,List.length_eq_zero_iff,List.filter_eq_nil_iff,zbR]
 constructor
 ·intro h w B
  obtain⟨h1,h2⟩:=zaF.mp B
  refine decide_eq_true (Decidable.byContradiction fun hd=>h w h1 (decide_eq_true (yl.mpr ⟨of_decide_eq_true h2,hd⟩)))
 ·intro h w B hm
  obtain⟨h1,h2⟩:=yl.mp (of_decide_eq_true hm)
  exact h2 (of_decide_eq_true (h w (zaF.mpr ⟨B,decide_eq_true h1⟩)))
theorem Aw:∀ls:List .br,qP .ci=true
 |[]=>rfl
 |l::ls=>by
  show (tU (tx l)&&qP .ci)=true
  rw [Aw ls]
  rfl
abbrev Rr:FT:=(bR (ar eO (.f bJ (bf 1 [1] (aR (.c qL 1 0)) (ah 0) (bR .cj) (ae 0))) (aH 0)))
abbrev dT (l:.aC):T:=.dct (dI l).1 (dI l).2
variable {ps:.aC}{r:.bI}
theorem NY {p:Pt}(h:p.Ok):p.ws.length≤5:=by
 cases p with
 |sum n ts=>have:=h.2.1;simp only [Pt.ws,List.length_map];omega
 |_=>exact zag rfl
theorem Ss (h:.fy)(d:.H){p:Pt}(hp:p∈ip ps d):Rr [s .f9,s .cB]=some (PJ ps d p,[s .f9,s .cB]):=by
 have i:=(zaF.mp (zaF.mp hp).1).1
 have hi:aR (.c qL 1 0) [s .f9,s .cB]=some (p.ws.map tx,[s .f9,s .cB]):=by
  unfold aR
  rw [aS (t:=RA p) rfl rfl (Gr (Hx h d) hp)]
  rfl
 have hw:=NY (h.ok p i)
 have U:=ir (φ:=tx) (E:=fun w=>[s (tx w),s .cB]) (f:=fun w=>decide .gg) (P:=fun τ=>∃u,τ=[u,s .cB]) (fg:=ah 0) (g:=tx) (ft:=bR .cj) (fe:=ae 0)
  (fun τ w ⟨u,e⟩=>by rw [e];rfl) .iY (fun w=>rfl) p.ws [none,s .cB] [] (fun w _=>eA (aS rfl rfl (by
   show some (T.bl (xor false (fQ .iF (S w))))=_
   rw [Bool.false_xor]
   congr 2
   rw [Bool.eq_iff_iff,jB,decide_eq_true_eq,tK]))) (fun w _ _=>rfl) .ag .ay
 refine eA (aS (aA _ (bE (bY hi rfl rfl U)) (t:=.int (((p.ws.filter fun w=>decide .gg).length:Nat):Int)) ?_) rfl (GI _ 0))
 show some (T.int ((([]++(p.ws.filter fun w=>decide .gg).map tx).length:Nat):Int))=_
 rw [zaO,zah]
noncomputable def Rp:FZ:=(zc (Bi 2 5 1 [2] (sY (ae 2)) (ah 0) Rr (ae 0)) (zc (Bh 2 .dx mP iN) (Jh 2 (ae 4))))
theorem Dy (h:.fy):(bp ps).length≤24:=zaz (List.length_filter_le ..) h.len
theorem BO {L O:T}{a:Addr}{j g v:.aN}{t:T}(M:j=none\/∃t,j=s t)(D:g=none\/∃t,g=s t)(R:v=none\/∃t,v=s t):(hide (m7 L O a j g v)).set 2 (s t)=[s O,s L,s t,j,g,v]:=by
 rcases M with rfl | ⟨_,rfl⟩<;>rcases D with rfl | ⟨_,rfl⟩<;>rcases R with rfl | ⟨_,rfl⟩<;>rfl
theorem Kg (h:.fy)(L O:T)(a:Addr){m:.D}{d:.H}(hm:m∈free ps d)(b:jC [bu (free ps d)]=some (tx m)){j v:.aN}(M:j=none\/∃t,j=s t)(R:v=none\/∃t,v=s t):Rp a (dI .jy) (.aF v)=some (dI (ip ps (d++[m])),.eb):=by
 obtain⟨W,l⟩:=zL hm
 have hl:(ip ps d).length≤24:=zaz (List.length_filter_le ..) (Dy h)
 have k:fQ .iF (S m)=true:=jB.mpr (tK.mpr (yl.mpr ⟨W,l⟩))
 have s1:Bi 2 5 1 [2] (sY (ae 2)) (ah 0) Rr (ae 0) a (dI .jy) (.aF v)=some (dI .jy,.eb):=by
  have U:=ir (φ:=fun p:Pt=>tx p.nam) (E:=fun p=>[s .f9,s .cB]) (f:=PJ ps d) (P:=fun τ=>∃u,τ=[u,s .cB]) (fg:=ah 0) (g:=fun p=>tx p.nam) (ft:=Rr) (fe:=ae 0)
   (fun τ w ⟨u,e⟩=>by rw [e];rfl) .iY (fun w=>rfl) .jy [none,s .cB] [] (fun p hp=>Ss h d hp) (fun w _ _=>rfl) .ag .ay
  unfold Bi
  rw [BO M .jn R]
  have hk:sY (ae 2) [s O,s L,s .cB,j,.s m,v]=some ((ip ps d).map fun p=>tx p.nam,[s O,s L,s .cB,j,.s m,v]):=by
   show some ((((ip ps d).map Pt.nam).map S).map T.str,_)=_
   rw [zay,zay]
   rfl
  rw [bY hk rfl rfl U,zaa]
  dsimp only
  rw [zaO,show ((ip ps d).filter (PJ ps d)).map (fun p=>tx p.nam)=(free ps d).map tx by rw [<- Kf,zay];rfl,if_pos ⟨Aw _,pj ..⟩]
  rfl
 have s2:Bh 2 .dx mP iN a (dI .jy) (.aF (.I d))=some (dI .jy,.eb):=by
  unfold Bh
  rw [BO M .jn .jn]
  have c1:bR (ar (jX true) (ae 4) (ae 2)) [s O,s L,s .cB,j,.s m,.aJ (free ps d)]=some (false,[s O,s L,s .cB,j,.s m,.aJ (free ps d)]):=eA (aS rfl rfl (by
   show some (T.bl (xor true (fQ .iF (S m))))=_
   rw [k]
   rfl))
  rw [ja c1 (ne_self rfl (.ae b) (gz (xJ h W)) .e),zaa]
  rfl
 have s3:Jh 2 (ae 4) a (dI .jy) (.aF (.I d))=some (dI (ip ps (d++[m])),.eb):=by
  unfold Jh
  rw [show ae 4 (.aF (.I d))=some (tx m,.eb) from rfl,zaa]
  dsimp only
  rw [.al ⟨pj ..,k⟩,J4 h]
 unfold Rp zc
 rw [s1,zaa]
 dsimp only
 rw [s2,zaa]
 exact s3
theorem DT (h:.fy)(L O:T)(a:Addr){j:.aN}(M:j=none\/∃t,j=s t):∀(q d:.H) (g v:.aN),(v=none\/∃t,v=s t)->Rd ps d q->∃W F,kW 2 (ah 4) Rp (q.map tx) a (dI .jy) (m7 L O a j g v)=some (dI (ip ps (d++q)),m7 L O a j W F)
 |[],d,g,v,_,_=>⟨g,v,by rw [zaw];rfl⟩
 |m::q,d,g,v,R,hr=>by
  obtain⟨W,F,e⟩:=DT h L O a M q (d++[m]) (s (tx m)) (.I d) (.inr ⟨_,rfl⟩) hr.2
  refine⟨W,F,?_⟩
  rw [zaf,kW,show ah 4 (tx m) (m7 L O a j g v)=some (.aF v) from rfl,zaa,if_pos (pj ..),Kg h L O a hr.1.1 hr.1.2 M R,zaa,e]
  simp
abbrev N8:List T->Option T:=cy 6 2 (eu Ln)
theorem LI (h:.fy){Q:.aC}(d:QQ ps Q):N8 [bu (Q.map Pt.nam),.lst .cw]=some .bE:=by
 have J:nz ps=(bp ps).map Pt.nam:=rfl
 have c:(Q.map Pt.nam).length=(nz ps).length:=Nat.le_antisymm (sub_len d.nd fun x hx=>by
  obtain⟨p,hp,rfl⟩:=zai.mp hx
  exact zai.mpr ⟨p,d.sub p hp,rfl⟩) (sub_len (lX h) fun x hx=>by
  obtain⟨p,hp,rfl⟩:=zai.mp hx
  exact zai.mpr ⟨p,d.all p hp,rfl⟩)
 have f:ip ps ([]++Q.map Pt.nam)=[]:=List.filter_eq_nil_iff.mpr fun p hp=>by
  rw [zaO,decide_eq_true (zai.mpr ⟨p,d.all p hp,rfl⟩)]
  decide
 refine .es
 show eu Ln [s .aG,s .J,none,none,none,none]=_
 unfold eu
 refine zF .dU fun a=>?_
 show nM _ _ a ([],[]) (m7 .J .aG a none none none)=_
 have M:=tD ps none .bc
 have U:=DR .J .aG a ps [] none (by rw [List.nil_append];exact lX h) (by have:=h.len;simp;omega) h.ok
 rw [zaO] at U
 have O:ip ps []=bp ps:=by
  unfold ip
  exact zbE.mpr fun p _=>rfl
 obtain⟨W,F,k⟩:=DT h .J .aG a M (Q.map Pt.nam) [] none none .bc d.rd
 rw [f,O] at k
 unfold nM CM
 rw [show aR (ae 1) (m7 .J .aG a none none none)=some (ps.map Pt.law,m7 .J .aG a none none none) from rfl,zaa]
 dsimp only
 rw [if_pos (pj ..)]
 unfold Ro at U
 change (kW 2 (ah 3) _ .cw a (dI (bp [])) _).bind _=_
 rw [U,zaa]
 have c1:gK (bU (.t bM .h7)) .cN=some (false,.cN):=.bt (aA _ .cg kc)
 have c2:bR (ar jM .d1 (.d oN 2)) .cN=some (false,.cN):=eA (aS (.ae jd) (aA _ .aR (t:=.int (((Q.map Pt.nam).length:Nat):Int)) (by
  show some (T.int (((((bp ps).map Pt.nam).map S).length:Nat):Int))=_
  rw [zah,c])) (by exact cmp_self (neg:=true) (kM _) .e))
 have D:Bh 2 (uO (.a2 (.t bM .h7)) (.D .d1 (.d oN 2))) mP iN a (dI (bp ps)) (m7 .J .aG a (iB ps none) none none)=some (dI (bp ps),m7 .J .aG a (iB ps none) none none):=by
  unfold Bh
  rw [BO M .bc .bc,ja c1 c2,zaa]
  rfl
 rw [D,zaa]
 dsimp only
 rw [show aR (ae 0) (m7 .J .aG a (iB ps none) none none)=some ((Q.map Pt.nam).map tx,m7 .J .aG a (iB ps none) none none) from rfl,zaa]
 dsimp only
 rw [if_pos (pj ..)]
 unfold Rp at k
 rw [k,zaa]
 rfl
abbrev L0:FS:=CZ cW QY BC QW QX OH N8 OL ON OK Of Og OM Rf
theorem Eo:∀us:List (Bool×List Nat),fJ (us.map gb)=true
 |[]=>rfl
 |u::us=>by
  show (cS (gb u)&&fJ (us.map gb))=true
  rw [Eo us]
  rfl
theorem Ep (us:List (Bool×List Nat)):cS (.tup (us.map gb))=true:=Eo us
theorem DQ (p:Pt):cS p.obj=true:=by
 cases p with
 |sum n us =>
  show (cS (tx n)&&(cS (.tup (us.map gb))&&true))=true
  rw [Ep]
  rfl
 |_=>rfl
theorem tV:∀ps:List Pt,fJ .bb=true
 |[]=>rfl
 |p::ps=>by
  show (cS p.obj&&fJ .bb)=true
  rw [tV ps,DQ]
  rfl
theorem J2 (p:Pt):cS p.law=true:=by
 cases p with
 |sum n us =>
  show (cS (.str "sum")&&(cS (tx n)&&(cS (.tup (us.map gb))&&true)))=true
  rw [Ep]
  rfl
 |_=>rfl
theorem LR (ps Q:.aC):cS (wT ps Q)=true:=by
 have h (l:.aC):cS (.tup (l.map Pt.obj))=true:=tV l
 show (cS (tx .bB)&&(cS (.tup .bb)&&(cS (.tup ((Hi ps).map Pt.obj))&&(cS (.tup ((fP ps).map Pt.obj))&&(cS (.tup ((Ig ps).map Pt.obj))&&(cS (.tup (Q.map Pt.obj))&&true))))))=true
 rw [h,h,h,h,h]
 rfl
theorem DM {alts:List .aE}{m:Str}{fo:FE}{τ τ1:az}{C:Addr}{ns:.U}{ts us:List T}{d:.Y}(h:fo τ=some (.obj C ns ts,τ1))(hm:¬ m∈ns)(hn:cS (.obj C ns ts)=true)(hf:ny C alts=some d)(hd:d [.obj C ns ts]=some .e2)(hu:fJ us=true):nS alts m fo τ=some (.lst .fC,τ1):=by
 unfold nS
 rw [h,zaa]
 dsimp only
 rw [if_neg hm,if_pos hn,hf,zaa,hd,zaa]
 dsimp only
 rw [if_pos hu]
theorem PX {x:Nat}{fo:pQ}{c:FQ}{τ τ1:az}{os:List O}{t:T}(h:fo τ=some (.lst os,τ1))(hx:x<τ1.length)(hk:∀a:Addr,c a os (τ1.set x .aS)=some (.rt t)):JF x fo c τ=some (.rt t):=by
 unfold JF
 rw [h,zaa]
 dsimp only
 rw [if_pos hx]
 exact Iw hk fun t' h'=>by
  have:=(h' 0).symm.trans (hk 0)
  cases this
  rfl
theorem jq {f g:FQ}{p:Addr}{os a:List O}{τ τ':az}(h:f p os τ=some (.nx a τ')):pk f g p os τ=g p a τ':=by
 unfold pk
 rw [h]
 rfl
theorem kn {x:Nat}{f:FS}{p:Addr}{os:List O}{τ τ':az}(h:f τ=some (.nx τ'))(hp:fW x p τ'=true):nK x f p os τ=some (.nx os τ'):=by
 unfold nK
 rw [h,zaa]
 dsimp only
 rw [if_pos hp]
theorem P8 {x:Nat}{tc:FT}{b:Bool}{p:Addr}{os:List O}{τ τ':az}(h:tc (seen x os τ)=some .jB):Rv x tc b p os τ=some (.nx os τ):=by
 unfold Rv
 rw [h]
 rfl
def Rk:FS:=(.aQ (.a2 (ai OH (.v 5 6))))
theorem DL (a b c d:T)(f:Addr):∀(l:.aC) (v I:.aN),(∀p∈l,p.Ok)->nV 4 (cu (.c 5 6)) Rk (l.map fun p=>.tup .i4) f [s a,s b,s c,s d,s (.ptr f),v,I,none,none]=some (.nx [s a,s b,s c,s d,s (.ptr f),nA l v,iB l I,none,none])
 |[],_,_,_=>rfl
 |p::l,v,I,h=>by
  have hn:cS (.tup .i4)=true:=by
   show (cS p.obj&&(cS p.law&&true))=true
   rw [DQ,J2]
   rfl
  have hB:Rk .a9=some (.nx .a9):=cZ (la (df (aA _ .cg (P5 (h p zae))) (b:=true) rfl))
  rw [zaf,nV,if_pos hn,show cu (.c 5 6) (.tup .i4) [s a,s b,s c,s d,s (.ptr f),v,I,none,none]=some .a9 from rfl,zaa,if_pos (show fW 4 f .a9=true from zbI f),hB,zaa]
  dsimp only
  rw [if_pos (show fW 4 f .a9=true from zbI f)]
  exact DL a b c d f l _ _ fun z hz=>h z .hZ
theorem Bk:∀ps:List Pt,iP .bb .cw=ps.map fun p=>.tup .i4
 |[]=>rfl
 |p::ps=>by rw [zaf,zaf,iP,Bk ps,zaf]
theorem Pj (p:Pt):decide (p.kind=[99,101,108,108])=p.isCell:=by cases p<;>rfl
theorem Pk (p:Pt):decide (p.kind=[105,110])=p.isIn:=by cases p<;>rfl
theorem Pl (p:Pt):decide (p.kind=[111,117,116])=p.isOut:=by cases p<;>rfl
theorem yk {f:Pt->Bool}{k:String}{l:.D}{g:Pt->T}{fe:FE}(hk:.fP)(hl:kR l)(hf:∀p,decide (Pt.kind p=l)=f p)(he:∀p,f p=true->fe [s p.law]=some (g p,[s p.law]))(ps:.aC)(hn:ps.length≤900):dG (ah 0) (.s .af .c7) fe .cw [none] []=some ((ps.filter f).map g):=by
 have:=ir (φ:=Pt.law) (E:=fun p=>[s p.law]) (f:=f) (P:=fun τ=>∃u,τ=[u]) (fg:=ah 0) (g:=g) (ft:=bR (ar eO .af .c7)) (fe:=fe)
  (fun τ w ⟨u,e⟩=>by rw [e];rfl) .iY (fun w=>rfl) ps [none] [] (fun p _=>by rw [eB rfl hk hl,hf]) (fun p _ h=>he p h) .ag .ay
 simpa using this
theorem Er:∀ls:List .br,fJ .ci=true
 |[]=>rfl
 |l::ls=>by
  show (cS (tx l)&&fJ .ci)=true
  rw [Er ls]
  rfl
theorem An:∀(ps:.aC) (x:.aN),(x=none\/∃t,x=s t)->nA ps x=none\/∃t,nA ps x=s t
 |[],_,h=>h
 |p::ps,_,_=>An ps _ .jn
theorem Hn {c:Nat}(U:c<128):∀{ls:.H},(∀l∈ls,kR l)->kR .jx
 |[],_=>fun _ h=>by cases h
 |[p],h=>h p zae
 |p::q::r,h=>fun x hx=>by
  rw [jn] at hx
  rcases zaA.mp hx with k | k
  ·exact h p zae x k
  ·rcases zao.mp k with rfl | k
   ·exact U
   ·exact Hn U (fun l hl=>h l (zad _ hl)) x k
theorem IZ {ps:.aC}(h:∀p∈ps,p.Ok):kR .bB:=Hn .e fun l hl=>by
 obtain⟨p,hp,rfl⟩:=zai.mp hl
 exact D5 (h p hp)
theorem Ny {ls:.H}(h:∀l∈ls,kR l):Ed 1 (bu ls):=Ee fun x hx=>by
 obtain⟨w,hw,rfl⟩:=zai.mp hx
 exact gz (h w hw)
abbrev lE (sc:.e5)(ps Q:.aC)(g v I B i:.aN):az:=[s (rV sc),s .J,.s .bB,s (wT ps Q),g,v,I,B,i]
theorem Hv (sc:.e5)(K:sc.length≤63):cy 9 1 L0 [.scr (sc.map T.int)]=some .bE:=by
 obtain⟨nm,a,b,o,m,is,e,F,ep⟩:=GN sc
 have C:=F.gp
 obtain⟨ps,k,M⟩:=JD (sc.getD 3 0) (ps:=partsOf nm a b o is e) (by have:=C.len;omega)
 have L:=C.perm k
 generalize KP nm (a+1+b+m)=r at *
 have hl:=L.len
 obtain⟨Q,d,A⟩:=QH L
 have D:Q.length≤900:=by
  have:=sub_len d.nd (b:=nz ps) fun x hx=>by
   obtain⟨p,hp,rfl⟩:=zai.mp hx
   exact zai.mpr ⟨p,d.sub p hp,rfl⟩
  rw [zah,zah] at this
  have:=Dy L
  omega
 have G:(fP ps).length≤900:=zaz (List.length_filter_le ..) .d
 have ca:∀l∈(fP ps).map Pt.nam,kR l:=fun l h=>by
  obtain⟨p,hp,rfl⟩:=zai.mp h
  obtain⟨h1,h2⟩:=zaF.mp hp
  have:=L.ok p h1
  cases p with
  |cell n w=>exact this.1.asc
  |_=>cases h2
 have N:∀{τ:az},ae 4 τ=some (.lst .bb,τ)->ai bJ (bH 4) τ=some (.int (ps.length:Nat),τ):=fun h=>aA _ (bE h) (by
  show some (T.int (((ps.map Pt.obj).length:Nat):Int))=_
  rw [zah])
 have H:∀{τ:az},ae 1 τ=some (.lst .cw,τ)->ai bJ (bH 1) τ=some (.int (ps.length:Nat),τ):=fun h=>aA _ (bE h) (by
  show some (T.int (((ps.map Pt.law).length:Nat):Int))=_
  rw [zah])
 refine .es
 show L0 [s (rV sc),none,none,none,none,none,none,none,none]=_
 unfold L0 CZ
 rw [aW (dv (t:=.lst .cw) (τ2:=[s (rV sc),s .J,none,none,none,none,none,none,none]) (aA _ (cT (.ae ep) (aA _ .cg (oP sc 3))) M) rfl),
  aW (dv (t:=tx .bB) (τ2:=[s (rV sc),s .J,.s .bB,none,none,none,none,none,none]) (.ae (JE L.ok hl)) rfl),
  aW (dv (t:=wT ps Q) (τ2:=lE sc ps Q none none none none none) (Fs .aR A) rfl)]
 have hm:nS [(cW,OL)] "parts" (ae 3) (lE sc ps Q none none none none none)=some (.lst .eo,lE sc ps Q none none none none none):=DM rfl LH (LR ps Q) rfl LS (tV ps)
 refine PX hm .dU fun a=>?_
 show pk _ _ a .eo (.Z .aS)=_
 have c:seen 4 .eo (.Z .aS)=lE sc ps Q (s .y) none none none none:=by
  unfold TM.seen
  rw [jK]
  rfl
 have c1:bR (ar jM (cR [(cW,ON)] "text" (ae 3) ao) (ae 2)) (.Z (s .y))=some (false,.d2):=ne_self (.Z PH QI) rfl (gz (IZ L.ok)) .e
 have c2:gK (bU (ai bM (.a (ae 4) .h7))) (.Z (s .y))=some (false,.d2):=.bt (aA _ .cg kc)
 have y:bR (ar jM (.d bJ 4) (.d bJ 1)) (.Z (s .y))=some (false,.d2):=ne_self (N rfl) (H rfl) (kM _) .e
 rw [jq (P8 (by rw [c];exact ja c1 (ja c2 y)))]
 have hz:lU (.v 4 1) (.Z (s .y))=some (ps.map fun p=>.tup .i4,.d2):=by
  unfold lU
  rw [cT (t:=.lst .bb) (u:=.lst .cw) rfl rfl,zaa]
  show some (iP .bb .cw,_)=_
  rw [Bk]
 have q:=DL (rV sc) .J (tx .bB) (wT ps Q) a ps none none L.ok
 have q2:KJ 4 (lU (.v 4 1)) (cu (.c 5 6)) Rk a .eo (.Z .aS)=some (.nx .eo (lE sc ps Q .aS (nA ps none) (iB ps none) none none)):=by
  unfold KJ
  rw [c,hz,zaa]
  dsimp only
  rw [q]
  rfl
 unfold Rk at q2
 rw [jq q2]
 have R:nA ps none=none\/∃t,nA ps none=s t:=An ps none .bc
 have f:=tD ps none .bc
 generalize nA ps none=v at *
 generalize iB ps none=I at *
 have pt:∀B i:Option Sl,fW 4 a (lE sc ps Q .aS v I B i)=true:=fun _ _=>zbI a
 have en:(ps.filter Pt.isCell).map (fun p=>tx p.nam)=((fP ps).map Pt.nam).map tx:=by rw [zay];rfl
 have k1:dU 7 1 [] (.am 1) (ah 0) (.s .af .hw) (.J 0 1) (lE sc ps Q .aS v I none none)=some (.nx (.aj (.n (((fP ps).map Pt.nam).map tx)))):=by
  rw [<- en]
  exact wM rfl rfl rfl (yk mK sj Pj (g:=fun p=>tx p.nam) (fun p hp=>aS rfl rfl (LB (LF hp))) ps .d)
 rw [jq (kn k1 (pt _ _))]
 have E:bR (ar jM (cR [(cW,OK)] "cell_names" (ae 3) ao) (ae 7)) (.aj (.n (((fP ps).map Pt.nam).map tx)))=some .da:=by
  refine eA (aS (t:=.bl false) (kf (t:=bu ((fP ps).map Pt.nam)) rfl So rfl (jm _) ((OA (Q:=Q) G).trans (congrArg (fun l=>some (T.lst l)) en))) rfl (cmp_self (neg:=true) (Ny ca) .e))
 have J:gK (bU (.aR (cR [(cW,Of)] "ins" (ae 3) ao))) (.aj .X)=some .da:=.bt (aA _ (cT (.Z PD Je) rfl) lZ)
 have d3:gK (bU (.aR (.bu (cW,Og)))) (.aj .X)=some .da:=.bt (aA _ (cT (.Z LG Jf) rfl) lZ)
 rw [jq (kn (cZ (ja E (ja J d3))) (pt _ _))]
 have z:bR (ar jM (cR [(cW,Of)] "ins" (ae 3) ao) (.aK .dt)) (.aj .X)=some .da:=
  ne_self (.Z PD Je) (aA _ (bE (bY (ts:=ps.map Pt.law) rfl rfl rfl (yk pJ so Pk (g:=Pt.law) (fe:=ae 0) (fun p _=>rfl) ps .d))) (by
   show some (T.int ((((ps.filter Pt.isIn).map Pt.law).length:Nat):Int))=_
   rw [zah])) (kM _) .e
 have j:bR (ar jM (.bu (cW,Og)) (.aK .e1)) (.aj .X)=some .da:=
  ne_self (.Z LG Jf) (aA _ (bE (bY (ts:=ps.map Pt.law) rfl rfl rfl (yk wR Gj Pl (g:=Pt.law) (fe:=ae 0) (fun p _=>rfl) ps .d))) (by
   show some (T.int ((((ps.filter Pt.isOut).map Pt.law).length:Nat):Int))=_
   rw [zah])) (kM _) .e
 rw [jq (kn (cZ z) (pt _ _)),jq (kn (cZ j) (pt _ _))]
 have ho:Di 8 (nS [(cW,OM)] "order" (ae 3)) (.aj .X)=some (.nx .bg):=by
  unfold Di
  rw [DM (us:=(Q.map Pt.nam).map tx) rfl PF (LR ps Q) rfl (LJ d D) (Er _),zaa]
  dsimp only
  rw [jK]
  rfl
 rw [jq (kn ho (pt _ _))]
 have Z:gK (bU (nv 8 (ai N8 (.v 8 1)))) .bg=some (false,lE sc ps Q .aS v I .X (.n ((Q.map Pt.nam).map tx))):=by
  refine la (df (t:=.bl true) ?_ (b:=true) rfl)
  unfold nv
  show ((ai N8 (.v 8 1)) ((hide .bg).set 8 (s .aG))).bind _=_
  rw [show (hide .bg).set 8 (s .aG)=lE sc ps Q .aS v I .X (s .aG) by
   rcases R with rfl | ⟨_,rfl⟩<;>rcases f with rfl | ⟨_,rfl⟩<;>rfl,aA _ .cg (LI L d)]
  rfl
 have ha:eY 8 (fC (.str "x")) .bg=some (.nx (lE sc ps Q .aS v I .X (.n ((Q.map Pt.nam).map tx++[.str "x"])))):=oH rfl rfl (bX (by rw [zah,zah];omega))
 rw [jq (kn (cZ Z) (pt _ _)),jq (show Co a _ _=some (.nx [] _) from rfl),jq (kn ha (pt _ _))]
 unfold Nl
 rw [Bu (aA _ (cT (.Z PF (LJ d D)) rfl) (LI L d)),eq_self (aA _ (bE (.Z LH LS)) (by
  show some (T.int (((ps.map Pt.obj).length:Nat):Int))=some (T.int (ps.length:Nat))
  rw [zah])) (H rfl) (kM _) .e]
 rfl
open PySem PySem.Spec PyProof.Rows L2 TM
theorem dX {α:Type}{us:List α}(h:us.length=1):∃a,us=[a]:=List.length_eq_one_iff.mp h
theorem lu {α:Type}{us:List α}(h:us.length=2):∃a b,us=[a,b]:=by
 rcases us with _ | ⟨a,us⟩
 ·cases h
 ·obtain⟨b,rfl⟩:=dX (us:=us) .au
  exact⟨a,b,rfl⟩
theorem Hw {α:Type}{us:List α}(h:us.length=3):∃a b c,us=[a,b,c]:=by
 rcases us with _ | ⟨a,us⟩
 ·cases h
 ·obtain⟨b,c,rfl⟩:=lu (us:=us) .au
  exact⟨a,b,c,rfl⟩
theorem Sg {α:Type}{us:List α}(h:us.length=4):∃a b c d,us=[a,b,c,d]:=by
 rcases us with _ | ⟨a,us⟩
 ·cases h
 ·obtain⟨b,c,d,rfl⟩:=Hw (us:=us) .au
  exact⟨a,b,c,d,rfl⟩
noncomputable def fo (s:Stmt)(nm p:Str)(pm:Value)(c:Addr):Obj:=⟨.type "function", none,.func (PySem.W.fnOf nm p (jV s) (eT s) (ax s) .none .none .none pm none (.d c) .none),#[]⟩
theorem fk {K:.j}(st:Stmt)(f c:Addr)(nm p:Str)(pm:Value)(l:K.lookup f=some (fo st nm p pm c))(h:PySem.W.codeIn K (.d c) p=true):eN K nm p st f (PySem.W.fnOf nm p (jV st) (eT st) (ax st) .none .none .none pm none (.d c) .none):=Mm l h (by unfold PySem.W.keepIn;dsimp only;rw [l];rfl)
noncomputable abbrev OE:List T->Option T:=(cy 9 1 (CZ 597 (QY) (BC) (QW) (QX) (OH) (N8) (OL) (ON) (OK) (Of) (Og) (OM) (Rf)))
set_option maxHeartbeats 0 in
theorem all_mk {w:World}{h:Heap}{mg:.G}{fa:Addr}(X:(kk w.params).In h)(G:h.Ns mainGlobals mg)(hfa:mg "law" = some (.d fa)):
  ∃fd:FuncData,(∀(s:Shared) (v:Value),BindsTo s fd ⟨[v],[]⟩ [("_law_script", v)])/\∀base:Heap,(kk w.params).In base->base.Ns mainGlobals mg->iO pg w .m mg base uQ 10 fa fd .fT (spT .m 1 OE):=by
 have f:∀(x:Str) (v:Value),PySem.W.nsIn .m mainGlobals x=some .cY->mg x=some v:=fun x v e=>PySem.W.mg_of X G e
 have mn:∀x:Str,PySem.W.nsIn .m mainGlobals x=some none->mg x=none:=fun x e=>PySem.W.mg_none_of X G e
 have e:=hfa.symm.trans (f "law" (.d 782) .a)
 cases e
 have a0:=fk (K:=kk w.params) mx 690 689 "_law_cell" "_law_cell" mh .a .a
 have b0:=a0.binds (ps:=.eX) fun _ _ _ _ _ _ us hl=>by obtain⟨a,b,rfl⟩:=lu hl;rfl
 have c0:=f "_law_cell" (.d 690) .a
 have g:=fk (K:=kk w.params) jv 697 696 "_law_digits" "_law_digits" mh .a .a
 have O:=g.binds (ps:=.eG) fun _ _ _ _ _ _ us hl=>by obtain⟨a,b,rfl⟩:=lu hl;rfl
 have f0:=f "_law_digits" (.d 697) .a
 have g0:=fk (K:=kk w.params) kz 704 703 "_law_mixed" "_law_mixed" mh .a .a
 have i0:=g0.binds (ps:=.f7) fun _ _ _ _ _ _ us hl=>by obtain⟨a,b,rfl⟩:=lu hl;rfl
 have j0:=f "_law_mixed" (.d 704) .a
 have k0:=fk (K:=kk w.params) kr 709 708 "_law_drawn" "_law_drawn" mh .a .a
 have l0:=k0.binds (ps:=.eG) fun _ _ _ _ _ _ us hl=>by obtain⟨a,b,rfl⟩:=lu hl;rfl
 have o0:=f "_law_drawn" (.d 709) .a
 have q:=fk (K:=kk w.params) kA 714 713 "_law_names" "_law_names" mh .a .a
 have r0:=q.binds (ps:=.f7) fun _ _ _ _ _ _ us hl=>by obtain⟨a,b,rfl⟩:=lu hl;rfl
 have s0:=f "_law_names" (.d 714) .a
 have t0:=fk (K:=kk w.params) my 721 720 "_law_frac" "_law_frac" mh .a .a
 have u0:=t0.binds (ps:=["_law_top","_law_bottom"]) fun _ _ _ _ _ _ us hl=>by obtain⟨a,b,rfl⟩:=lu hl;rfl
 have v0:=f "_law_frac" (.d 721) .a
 have i:=fk (K:=kk w.params) ku 728 727 "_law_inner" "_law_inner" mh .a .a
 have z0:=i.binds (ps:=.fc) fun _ _ _ _ _ _ us hl=>by obtain⟨a,b,c,rfl⟩:=Hw hl;rfl
 have a1:=f "_law_inner" (.d 728) .a
 have b1:=fk (K:=kk w.params) kB 733 732 "_law_parts" "_law_parts" mh .a .a
 have c1:=b1.binds (ps:=.fT) fun _ _ _ _ _ _ us hl=>by obtain⟨a,rfl⟩:=dX hl;rfl
 have E:=f "_law_parts" (.d 733) .a
 have e1:=fk (K:=kk w.params) mz 738 737 "_law_laid" "_law_laid" mh .a .a
 have f1:=e1.binds (ps:=[.gl,.aD]) fun _ _ _ _ _ _ us hl=>by obtain⟨a,b,rfl⟩:=lu hl;rfl
 have g1:=f "_law_laid" (.d 738) .a
 have i1:=fk (K:=kk w.params) gq 745 744 "_law_frac_text" "_law_frac_text" mh .a .a
 have j1:=i1.binds (ps:=["_law_one"]) fun _ _ _ _ _ _ us hl=>by obtain⟨a,rfl⟩:=dX hl;rfl
 have k1:=f "_law_frac_text" (.d 745) .a
 have l1:=fk (K:=kk w.params) oh 750 749 "_law_row" "_law_row" mh .a .a
 have o1:=l1.binds (ps:=.cn) fun _ _ _ _ _ _ us hl=>by obtain⟨a,rfl⟩:=dX hl;rfl
 have q1:=f "_law_row" (.d 750) .a
 have r1:=fk (K:=kk w.params) mB 755 754 "_law_text" "_law_text" mh .a .a
 have s1:=r1.binds (ps:=["_law_laid_here"]) fun _ _ _ _ _ _ us hl=>by obtain⟨a,rfl⟩:=dX hl;rfl
 have t1:=f "_law_text" (.d 755) .a
 have L:=fk (K:=kk w.params) ky 767 766 "_law_kinds" "_law_kinds" mh .a .a
 have v1:=L.binds (ps:=["_law_thing"]) fun _ _ _ _ _ _ us hl=>by obtain⟨a,rfl⟩:=dX hl;rfl
 have y1:=f "_law_kinds" (.d 767) .a
 have U:=fk (K:=kk w.params) kC 760 759 "_law_wants" "_law_wants" mh .a .a
 have a2:=U.binds (ps:=.cn) fun _ _ _ _ _ _ us hl=>by obtain⟨a,rfl⟩:=dX hl;rfl
 have b2:=f "_law_wants" (.d 760) .a
 have c2:=fk (K:=kk w.params) mw 320 319 "row" "Part.row" nC .a .a
 have J:=c2.binds (ps:=.Z) fun _ _ _ _ _ _ us hl=>by obtain⟨a,rfl⟩:=dX hl;rfl
 have e2:=fk (K:=kk w.params) qm 362 361 "row" "In.row" nC .a .a
 have f2:=e2.binds (ps:=.Z) fun _ _ _ _ _ _ us hl=>by obtain⟨a,rfl⟩:=dX hl;rfl
 have g2:=fk (K:=kk w.params) mm 395 394 "row" "Cell.row" nC .a .a
 have i2:=g2.binds (ps:=.Z) fun _ _ _ _ _ _ us hl=>by obtain⟨a,rfl⟩:=dX hl;rfl
 have j2:=fk (K:=kk w.params) qo 294 293 "figures" "figures" Gb .a .a
 have k2:=j2.binds (ps:=["number"]) fun _ _ _ _ _ _ us hl=>by obtain⟨a,rfl⟩:=dX hl;rfl
 have l2:=f "figures" (.d 294) .a
 have o2:=fk (K:=kk w.params) mG 287 286 "show_frac" "show_frac" Gb .a .a
 have q2:=o2.binds (ps:=["one"]) fun _ _ _ _ _ _ us hl=>by obtain⟨a,rfl⟩:=dX hl;rfl
 have r2:=f "show_frac" (.d 287) .a
 have s2:=fk (K:=kk w.params) mr 435 434 "row" "Gain.row" nC .a .a
 have t2:=s2.binds (ps:=.Z) fun _ _ _ _ _ _ us hl=>by obtain⟨a,rfl⟩:=dX hl;rfl
 have S:=fk (K:=kk w.params) og 473 472 "row" "Sum.row" nC .a .a
 have v2:=S.binds (ps:=.Z) fun _ _ _ _ _ _ us hl=>by obtain⟨a,rfl⟩:=dX hl;rfl
 have y2:=fk (K:=kk w.params) oa 511 510 "row" "Out.row" nC .a .a
 have D:=y2.binds (ps:=.Z) fun _ _ _ _ _ _ us hl=>by obtain⟨a,rfl⟩:=dX hl;rfl
 have a3:=fk (K:=kk w.params) jt 327 326 "wants" "Part.wants" nC .a .a
 have b3:=a3.binds (ps:=.Z) fun _ _ _ _ _ _ us hl=>by obtain⟨a,rfl⟩:=dX hl;rfl
 have c3:=fk (K:=kk w.params) jr 402 401 "wants" "Cell.wants" nC .a .a
 have d3:=c3.binds (ps:=.Z) fun _ _ _ _ _ _ us hl=>by obtain⟨a,rfl⟩:=dX hl;rfl
 have e3:=fk (K:=kk w.params) js 442 441 "wants" "Gain.wants" nC .a .a
 have M:=e3.binds (ps:=.Z) fun _ _ _ _ _ _ us hl=>by obtain⟨a,rfl⟩:=dX hl;rfl
 have g3:=fk (K:=kk w.params) kq 478 477 "wants" "Sum.wants" nC .a .a
 have i3:=g3.binds (ps:=.Z) fun _ _ _ _ _ _ us hl=>by obtain⟨a,rfl⟩:=dX hl;rfl
 have j3:=fk (K:=kk w.params) ko 518 517 "wants" "Out.wants" nC .a .a
 have k3:=j3.binds (ps:=.Z) fun _ _ _ _ _ _ us hl=>by obtain⟨a,rfl⟩:=dX hl;rfl
 have l3:=fk (K:=kk w.params) gu 772 771 "_law_part_good" "_law_part_good" mh .a .a
 have o3:=l3.binds (ps:=[.iL,.g1]) fun _ _ _ _ _ _ us hl=>by obtain⟨a,b,rfl⟩:=lu hl;rfl
 have q3:=f "_law_part_good" (.d 772) .a
 have r3:=fk (K:=kk w.params) fY 777 776 "_law_order_good" "_law_order_good" mh .a .a
 have s3:=r3.binds (ps:=["_law_order",.gN]) fun _ _ _ _ _ _ us hl=>by obtain⟨a,b,rfl⟩:=lu hl;rfl
 have t3:=f "_law_order_good" (.d 777) .a
 have u3:=fk (K:=kk w.params) hG 556 555 "parts" "Wiring.parts" lG .a .a
 have T:=u3.binds (ps:=.Z) fun _ _ _ _ _ _ us hl=>by obtain⟨a,rfl⟩:=dX hl;rfl
 have V:=fk (K:=kk w.params) iG 549 548 "text" "Wiring.text" lG .a .a
 have I:=V.binds (ps:=.Z) fun _ _ _ _ _ _ us hl=>by obtain⟨a,rfl⟩:=dX hl;rfl
 have Y:=fk (K:=kk w.params) eK 575 574 "cell_names" "Wiring.cell_names" lG .a .a
 have b4:=Y.binds (ps:=.Z) fun _ _ _ _ _ _ us hl=>by obtain⟨a,rfl⟩:=dX hl;rfl
 have c4:=fk (K:=kk w.params) ju 563 562 "ins" "Wiring.ins" lG .a .a
 have z:=c4.binds (ps:=.Z) fun _ _ _ _ _ _ us hl=>by obtain⟨a,rfl⟩:=dX hl;rfl
 have e4:=fk (K:=kk w.params) iF 570 569 "outs" "Wiring.outs" lG .a .a
 have f4:=e4.binds (ps:=.Z) fun _ _ _ _ _ _ us hl=>by obtain⟨a,rfl⟩:=dX hl;rfl
 have g4:=fk (K:=kk w.params) gZ 580 579 "order" "Wiring.order" lG .a .a
 have i4:=g4.binds (ps:=.Z) fun _ _ _ _ _ _ us hl=>by obtain⟨a,rfl⟩:=dX hl;rfl
 have j4:=fk (K:=kk w.params) qp 644 643 "is_name" "is_name" lG .a .a
 have N:=j4.binds (ps:=["word"]) fun _ _ _ _ _ _ us hl=>by obtain⟨a,rfl⟩:=dX hl;rfl
 have l4:=f "is_name" (.d 644) .a
 have o4:=fk (K:=kk w.params) mC 639 638 "are_names" "are_names" lG .a .a
 have q4:=o4.binds (ps:=["words","many"]) fun _ _ _ _ _ _ us hl=>by obtain⟨a,b,rfl⟩:=lu hl;rfl
 have r4:=f "are_names" (.d 639) .a
 have s4:=fk (K:=kk w.params) kF 306 305 "is_figures" "is_figures" Gb .a .a
 have t4:=s4.binds (ps:=.hh) fun _ _ _ _ _ _ us hl=>by obtain⟨a,rfl⟩:=dX hl;rfl
 have u4:=f "is_figures" (.d 306) .a
 have v4:=fk (K:=kk w.params) om 252 251 "is_whole" "is_whole" Gb .a .a
 have W:=v4.binds (ps:=["thing"]) fun _ _ _ _ _ _ us hl=>by obtain⟨a,rfl⟩:=dX hl;rfl
 have z4:=f "is_whole" (.d 252) .a
 have a5:=fk (K:=kk w.params) Nr 216 215 "half" "half" Rl .a .a
 have b5:=a5.binds (ps:=["one",.g0]) fun _ _ _ _ _ _ us hl=>by obtain⟨a,b,rfl⟩:=lu hl;rfl
 have c5:=f "half" (.d 216) .a
 have j:=fk (K:=kk w.params) uj 209 208 "common" "common" Rl .a .a
 have e5:=j.binds (ps:=["one",.g0]) fun _ _ _ _ _ _ us hl=>by obtain⟨a,b,rfl⟩:=lu hl;rfl
 have F:=f "common" (.d 209) .a
 have g5:=fk (K:=kk w.params) jw 259 258 "is_fraction" "is_fraction" Gb .a .a
 have i5:=g5.binds (ps:=["thing"]) fun _ _ _ _ _ _ us hl=>by obtain⟨a,rfl⟩:=dX hl;rfl
 have j5:=f "is_fraction" (.d 259) .a
 have k5:=fk (K:=kk w.params) mD 301 300 "read_frac" "read_frac" Gb .a .a
 have l5:=k5.binds (ps:=.hh) fun _ _ _ _ _ _ us hl=>by obtain⟨a,rfl⟩:=dX hl;rfl
 have o5:=f "read_frac" (.d 301) .a
 have q5:=fk (K:=kk w.params) jx 629 628 "read_factor" "read_factor" lG .a .a
 have r5:=q5.binds (ps:=.hh) fun _ _ _ _ _ _ us hl=>by obtain⟨a,rfl⟩:=dX hl;rfl
 have s5:=f "read_factor" (.d 629) .a
 have t5:=fk (K:=kk w.params) gn 428 427 "__init__" "Gain.__init__" nC .a .a
 have u5:=t5.binds (ps:=.eW) fun _ _ _ _ _ _ us hl=>by obtain⟨a,b,c,d,rfl⟩:=Sg hl;rfl
 have v5:=fk (K:=kk w.params) mE 622 621 "read_gain" "read_gain" lG .a .a
 have y5:=v5.binds (ps:=["name","number",.cQ]) fun _ _ _ _ _ _ us hl=>by obtain⟨a,b,c,rfl⟩:=Hw hl;rfl
 have z5:=f "read_gain" (.d 622) .a
 have a6:=fk (K:=kk w.params) gY 468 467 "__init__" "Sum.__init__" nC .a .a
 have b6:=a6.binds (ps:=.fi) fun _ _ _ _ _ _ us hl=>by obtain⟨a,b,c,rfl⟩:=Hw hl;rfl
 have c6:=fk (K:=kk w.params) oo 634 633 "read_sum" "read_sum" lG .a .a
 have m:=c6.binds (ps:=["name","words"]) fun _ _ _ _ _ _ us hl=>by obtain⟨a,b,rfl⟩:=lu hl;rfl
 have e6:=f "read_sum" (.d 634) .a
 have f6:=fk (K:=kk w.params) iE 355 354 "__init__" "In.__init__" nC .a .a
 have g6:=f6.binds (ps:=.fS) fun _ _ _ _ _ _ us hl=>by obtain⟨a,b,rfl⟩:=lu hl;rfl
 have i6:=fk (K:=kk w.params) gm 388 387 "__init__" "Cell.__init__" nC .a .a
 have j6:=i6.binds (ps:=.gE) fun _ _ _ _ _ _ us hl=>by obtain⟨a,b,c,rfl⟩:=Hw hl;rfl
 have k6:=fk (K:=kk w.params) gX 504 503 "__init__" "Out.__init__" nC .a .a
 have l6:=k6.binds (ps:=["self",.cQ]) fun _ _ _ _ _ _ us hl=>by obtain⟨a,b,rfl⟩:=lu hl;rfl
 have o6:=fk (K:=kk w.params) mF 615 614 "read_part" "read_part" lG .a .a
 have q6:=o6.binds (ps:=["row"]) fun _ _ _ _ _ _ us hl=>by obtain⟨a,rfl⟩:=dX hl;rfl
 have r6:=f "read_part" (.d 615) .a
 have Z:=fk (K:=kk w.params) kG 608 607 "read_parts" "read_parts" lG .a .a
 have t6:=Z.binds (ps:=.hh) fun _ _ _ _ _ _ us hl=>by obtain⟨a,rfl⟩:=dX hl;rfl
 have u6:=f "read_parts" (.d 608) .a
 have v6:=fk (K:=kk w.params) iH 651 650 "refuse_names" "refuse_names" lG .a .a
 have y6:=v6.binds (ps:=.ju) fun _ _ _ _ _ _ us hl=>by obtain⟨a,rfl⟩:=dX hl;rfl
 have z6:=f "refuse_names" (.d 651) .a
 have a7:=fk (K:=kk w.params) hJ 656 655 "refuse_counts" "refuse_counts" lG .a .a
 have b7:=a7.binds (ps:=.ju) fun _ _ _ _ _ _ us hl=>by obtain⟨a,rfl⟩:=dX hl;rfl
 have c7:=f "refuse_counts" (.d 656) .a
 have d7:=fk (K:=kk w.params) kE 666 665 "free_names" "free_names" lG .a .a
 have e7:=d7.binds (ps:=["wanted","order"]) fun _ _ _ _ _ _ us hl=>by obtain⟨a,b,rfl⟩:=lu hl;rfl
 have f7:=f "free_names" (.d 666) .a
 have g7:=fk (K:=kk w.params) oj 661 660 "in_order" "in_order" lG .a .a
 have i7:=g7.binds (ps:=.ju) fun _ _ _ _ _ _ us hl=>by obtain⟨a,rfl⟩:=dX hl;rfl
 have j7:=f "in_order" (.d 661) .a
 have k7:=fk (K:=kk w.params) fL 542 541 "__init__" "Wiring.__init__" lG .a .a
 have l7:=k7.binds (ps:=["self","text"]) fun _ _ _ _ _ _ us hl=>by obtain⟨a,b,rfl⟩:=lu hl;rfl
 have o7:=fk (K:=kk w.params) wK 782 781 "law" "law" mh .a .a
 have q7:=o7.binds (ps:=.fT) fun _ _ _ _ _ _ us hl=>by obtain⟨a,rfl⟩:=dX hl;rfl
 have r7:=f "law" (.d 782) .a
 have R:dE .m 337:=.bS
 have t7:=f "Part" (.d 337) .a
 have u7:dE .m 372:=.bS
 have v7:=f "In" (.d 372) .a
 have H:dE .m 412:=.bS
 have z7:=f "Cell" (.d 412) .a
 have a8:dE .m 452:=.bS
 have b8:=f "Gain" (.d 452) .a
 have c8:dE .m 488:=.bS
 have o:=f "Sum" (.d 488) .a
 have e8:dE .m 528:=.bS
 have f8:=f "Out" (.d 528) .a
 have n:dE .m 597:=.bS
 have i8:=f "Wiring" (.gy) .a
 have j8:=f "NoFraction" (.d 58) .a
 have k8:=f "EchoError" (.d 38) .a
 have l8:RF .m 58 [38] (none):=⟨lH.of .a,(.U ⟨(vE),lH.of .a⟩)⟩
 have o8:Bq .m 58 [(58,true)]:=⟨⟨.ref 38::vE,none,lH.of .a,.c⟩,(.U ⟨_,_,l8.cls,.c⟩)⟩
 have q8:∀a∈([(337,false),(372,true),(412,false),(452,false),(488,false),(528,false),.h6]:List .b2),dQ .m 372 a.1 a.2:=.l
 have r8:∀a∈([(337,false),(372,false),(412,true),(452,false),(488,false),(528,false),.h6]:List .b2),dQ .m 412 a.1 a.2:=.l
 have s8:∀a∈([(337,false),(372,false),(412,false),(452,true),(488,false),(528,false),.h6]:List .b2),dQ .m 452 a.1 a.2:=.l
 have t8:∀a∈([(337,false),(372,false),(412,false),(452,false),(488,true),(528,false),.h6]:List .b2),dQ .m 488 a.1 a.2:=.l
 have u8:∀a∈([(337,false),(372,false),(412,false),(452,false),(488,false),(528,true),.h6]:List .b2),dQ .m 528 a.1 a.2:=.l
 have v8:∀a∈([(337,true),(372,true),(412,true),(452,true),(488,true),(528,true),.h6]:List .b2),dQ .m 337 a.1 a.2:=.l
 have y8:∀C∈([372,412,452,488]:List Addr),dE .m C/\ba .m C "name" := (zab.mpr ⟨⟨u7,(by kernel_rfl:PySem.W.findIn .m (.d 372) "name" = some none)⟩,(.aq ⟨H,(by kernel_rfl:PySem.W.findIn .m (.d 412) "name" = some none)⟩ (.aq ⟨a8,(by kernel_rfl:PySem.W.findIn .m (.d 452) "name" = some none)⟩ (.U ⟨c8,(by kernel_rfl:PySem.W.findIn .m (.d 488) "name" = some none)⟩)))⟩)
 have z8:∀C∈([412,452,528]:List Addr),dE .m C/\ba .m C "source" := (.aq ⟨H,(by kernel_rfl:PySem.W.findIn .m (.d 412) "source" = some none)⟩ (.aq ⟨a8,(by kernel_rfl:PySem.W.findIn .m (.d 452) "source" = some none)⟩ (.U ⟨e8,(by kernel_rfl:PySem.W.findIn .m (.d 528) "source" = some none)⟩)))
 have a9:∀C∈([452]:List Addr),dE .m C/\ba .m C "by" := (.U ⟨a8,(by kernel_rfl:PySem.W.findIn .m (.d 452) "by" = some none)⟩)
 have b9:∀C∈([488]:List Addr),dE .m C/\ba .m C "terms" := (.U ⟨c8,(by kernel_rfl:PySem.W.findIn .m (.d 488) "terms" = some none)⟩)
 have u:∀a∈([(337,false),(372,false),(412,true),(452,true),(488,false),(528,true),.h6]:List .b2),Bn .m [412,452,528] a.1 a.2:=(.aq (.aE ⟨R,.a,.a,.a,.a,rfl⟩) (.aq (.aE ⟨u7,.a,.a,.a,.a,rfl⟩) (zab.mpr ⟨(.aE ⟨H,.a,.a,.a,.a,rfl⟩),(zab.mpr ⟨(.aE ⟨a8,.a,.a,.a,.a,rfl⟩),(zab.mpr ⟨(.aE ⟨c8,.a,.a,.a,.a,rfl⟩),(zab.mpr ⟨(.aE ⟨e8,.a,.a,.a,.a,rfl⟩),(.U (.aE ⟨n,.a,.a,.a,.a,rfl⟩))⟩)⟩)⟩)⟩)))
 have d9:∀C∈([597]:List Addr),dE .m C/\ba .m C "all_parts" := (.U ⟨n,(by kernel_rfl:PySem.W.findIn .m .gy "all_parts" = some none)⟩)
 have e9:∀C∈([597]:List Addr),dE .m C/\ba .m C "whole" := (.U ⟨n,(by kernel_rfl:PySem.W.findIn .m .gy "whole" = some none)⟩)
 have f9:∀C∈([597]:List Addr),dE .m C/\ba .m C "cell_parts" := (.U ⟨n,(by kernel_rfl:PySem.W.findIn .m .gy "cell_parts" = some none)⟩)
 have g9:∀C∈([597]:List Addr),dE .m C/\ba .m C "in_parts" := (.U ⟨n,(by kernel_rfl:PySem.W.findIn .m .gy "in_parts" = some none)⟩)
 have i9:∀C∈([597]:List Addr),dE .m C/\ba .m C "out_parts" := (.U ⟨n,(by kernel_rfl:PySem.W.findIn .m .gy "out_parts" = some none)⟩)
 have j9:∀C∈([597]:List Addr),dE .m C/\ba .m C "inner_parts" := (.U ⟨n,(by kernel_rfl:PySem.W.findIn .m .gy "inner_parts" = some none)⟩)
 have y:∀a∈([(337,false),(372,false),(412,false),(452,true),(488,true),(528,false),.h6]:List .b2),Bm .m 452 488 a.1 a.2:=(.aq (.aY ⟨R,.a,.a,.a,.a,rfl⟩) (.aq (.aY ⟨u7,.a,.a,.a,.a,rfl⟩) (zab.mpr ⟨(.aY ⟨H,.a,.a,.a,.a,rfl⟩),(zab.mpr ⟨(.aY ⟨a8,.a,.a,.a,.a,rfl⟩),(zab.mpr ⟨(.aY ⟨c8,.a,.a,.a,.a,rfl⟩),(zab.mpr ⟨(.aY ⟨e8,.a,.a,.a,.a,rfl⟩),(.U (.aY ⟨n,.a,.a,.a,.a,rfl⟩))⟩)⟩)⟩)⟩)))
 have p:=mn "len" .b9
 have o9:=mn "range" .b9
 have q9:=mn "zip" .b9
 have r9:=mn "int" .b9
 have s9:=mn "abs" .b9
 have t9:=mn "tuple" .b9
 have u9:=mn "str" .b9
 have v9:=mn "isinstance" .b9
 have y9:=mn "divmod" .b9
 have z9:=mn "list" .b9
 have a10:=mn "min" .b9
 have b10:=mn "all" .b9
 have c10:=mn "bool" .b9
 have d10:=mn "enumerate" .b9
 have e10:=f "LONGEST_NAME" (.ae (8) 875) .a
 have f10:=f "LETTERS" (.str "abcdefghijklmnopqrstuvwxyz" 873) .a
 have g10:=f "MOST_FIGURES" (.ae (30) 508) .a
 have i10:=f "SHORT" (.ae (4000) 420) .a
 have j10:=f "GREATEST_TOP" (.ae (99) 879) .a
 have k10:=f "GREATEST_BOTTOM" (.ae (12) 881) .a
 have l10:=f "MOST_TERMS" (.ae (4) 877) .a
 have o10:=f "MOST_ROWS" (.ae (24) 883) .a
 have q10:=f "MOST_CELLS" (.ae (4) 885) .a
 have r10:=f "MOST_LINES" (.ae (2) 887) .a
 refine⟨PySem.W.fnOf "law" "law" (jV wK) (eT wK) (ax wK) .none .none .none mh none (.d 781) .none,fun s v=>.of_eq rfl,fun base _ _=>?_⟩
 have s10:Def pg w .m mg base 1 "_law_cell" 2 (BC):=yr a0 b0 c0 p
 have t10:Def pg w .m mg base 1 "_law_digits" 2 (QS):=ua g O f0 
 have u10:Def pg w .m mg base 1 "_law_mixed" 2 (OF):=vq g0 i0 j0 o9
 have v10:Def pg w .m mg base 2 "_law_drawn" 2 (vZ):=vn k0 l0 o0 (t10.mono .e) (u10.mono .e) q9 p
 have A:Def pg w .m mg base 3 "_law_names" 2 (Lo):=vt q r0 s0 (v10.mono .e) o9 r9
 have z10:Def pg w .m mg base 1 "_law_frac" 2 (nB):=(yt (P:=pg) (w:=w) (base:=base) (k:=0) B t0 u0 v0 s9).imp A8
 have a11:Def pg w .m mg base 2 "_law_inner" 3 (N7):=vo i z0 a1 (z10.mono .e) p t9
 have b11:Def pg w .m mg base 4 "_law_parts" 1 (QY):=vw b1 c1 E (s10.mono .e) (v10.mono .e) (A.mono .e) (a11.mono .e) o9 p
 have c11:Def pg w .m mg base 3 "_law_laid" 2 (QW):=yu e1 f1 g1 (v10.mono .e) q9 o9 p
 have d11:Def pg w .m mg base 1 "_law_frac_text" 1 (OJ):=oZ i1 j1 k1 u9
 have e11:Def pg w .m mg base 2 "_law_row" 1 (Lm):=AA l1 o1 q1 (d11.mono .e) r9
 have f11:Def pg w .m mg base 3 "_law_text" 1 (QX):=yw r1 s1 t1 (e11.mono .e) 
 have g11:Def pg w .m mg base 1 "_law_kinds" 1 (OD):=vp L v1 y1 q8 r8 s8 t8 u8 v8 z7 b8 v7 f8 t7 o v9
 have i11:Def pg w .m mg base 1 "_law_wants" 1 (Ln):=vy U a2 b2 t9 p
 have j11:.L 337 (Jy):=vm c2 J R .bz 
 have k11:.L 372 (GB):=Az e2 f2 u7 .bz y8 
 have l11:.L 412 (Gz):=vh g2 i2 H .bz y8 z8 
 have o11:Def pg w .m mg base 1 "figures" 1 (N4):=Ce 3 j2 k2 l2 y9 u9
 have q11:Def pg w .m mg base 2 "show_frac" 1 (Oa):=yB o2 q2 r2 (o11.mono .e) s9
 have r11:cN pg w .m mg base 3 452 "row" 1 (GA):=vk s2 t2 a8 .bz (q11.mono .e) y8 a9 z8 
 have s11:.L 488 (GD):=yq S v2 c8 .bz y8 b9 
 have t11:.L 528 (GC):=yp y2 D e8 .bz z8 
 have u11:.G 337 (sS):=lb a3 b3 R .bz 
 have v11:.G 372 (sS):=lb a3 b3 u7 .bz 
 have y11:.G 412 (xo):=rq c3 d3 H .bz z8 
 have z11:.G 452 (xp):=rA e3 M a8 .bz z8 
 have a12:.G 488 (xr):=tX g3 i3 c8 .bz b9 t9
 have b12:.G 528 (xq):=tW j3 k3 e8 .bz z8 
 have c12:Def pg w .m mg base 4 "_law_part_good" 2 (OH):=pb l3 o3 q3 (g11.mono .e) (e11.mono .e) (i11.mono .e) (.bi ⟨j11.mono .e,(zab.mpr ⟨k11.mono .e,(zab.mpr ⟨l11.mono .e,(zab.mpr ⟨r11.mono .e,(zab.mpr ⟨s11.mono .e,(zab.mpr ⟨t11.mono .e,.I⟩)⟩)⟩)⟩)⟩)⟩) .al s8 t8 u z7 b8 f8 o z8 a9 b9 y8 v9 p
 have d12:Def pg w .m mg base 2 "_law_order_good" 2 (N8):=n0 r3 s3 t3 (i11.mono .e) z9 v9 p a10
 have e12:cN pg w .m mg base 1 597 "parts" 1 (OL):=oY u3 T n .bz d9 z9
 have f12:cN pg w .m mg base 1 597 "text" 1 (ON):=qf V I n .bz e9 
 have g12:cN pg w .m mg base 1 597 "cell_names" 1 (OK):=ki Y b4 n .bz f9 y8 
 have i12:cN pg w .m mg base 1 597 "ins" 1 (Of):=rB c4 z n .bz g9 p
 have j12:cN pg w .m mg base 1 597 "outs" 1 (Og):=qe e4 f4 n .bz i9 p
 have k12:cN pg w .m mg base 1 597 "order" 1 (OM):=oX g4 i4 n .bz j9 y8 
 have l12:Def pg w .m mg base 1 "is_name" 1 (OG):=Cf j4 N l4 p b10 e10 f10
 have Cc:Def pg w .m mg base 2 "are_names" 2 (Jk):=yx o4 q4 r4 (l12.mono .e) p b10
 have l:Def pg w .m mg base 1 "is_figures" 1 (N5):=vz s4 t4 u4 p b10 g10
 have r12:Def pg w .m mg base 1 "is_whole" 1 (QV):=AD v4 W z4 r9 v9 c10
 have s12:Def pg w .m mg base 0 "half" 2 .ja:=Def.zero a5 b5 c5
 have SV:Def pg w .m mg base 1 "common" 2 (mU):=(Fv (P:=pg) (w:=w) (base:=base) (k:=0) B j e5 F (s12.mono .e) s9 i10).imp FH
 have u12:Def pg w .m mg base 2 "is_fraction" 1 (N6):=ub g5 i5 j5 (r12.mono .e) (SV.mono .e) t9 v9 p
 have v12:Def pg w .m mg base 3 "read_frac" 1 (OI):=yy k5 l5 o5 (l.mono .e) (u12.mono .e) (q11.mono .e) u9 v9 r9
 have y12:Def pg w .m mg base 4 "read_factor" 1 (QT):=uc q5 r5 s5 (v12.mono .e) o8 j8 s9 j10 k10
 have z12:iu pg w .m mg base 2 "Gain" 452 3 (Q9):=HU t5 u5 a8 .bS b8 (by kernel_rfl:PySem.W.findIn .m (.d 452) "name" = some none) (by kernel_rfl:PySem.W.findIn .m (.d 452) "by" = some none) (by kernel_rfl:PySem.W.findIn .m (.d 452) "source" = some none) 
 have a13:Def pg w .m mg base 5 "read_gain" 3 (Q0):=yz v5 y5 z5 (y12.mono .e) (Cc.mono .e) (z12.mono .e) 
 have b13:iu pg w .m mg base 2 "Sum" 488 2 (Rc):=Ki a6 b6 c8 .bS o (by kernel_rfl:PySem.W.findIn .m (.d 488) "name" = some none) (by kernel_rfl:PySem.W.findIn .m (.d 488) "terms" = some none) 
 have c13:Def pg w .m mg base 3 "read_sum" 2 (Q2):=AE c6 m e6 (Cc.mono .e) (b13.mono .e) t9 p
 have d13:iu pg w .m mg base 2 "In" 372 1 (Ra):=ML f6 g6 u7 .bS v7 (by kernel_rfl:PySem.W.findIn .m (.d 372) "name" = some none) 
 have e13:iu pg w .m mg base 2 "Cell" 412 2 (Q8):=HS i6 j6 H .bS z7 (by kernel_rfl:PySem.W.findIn .m (.d 412) "name" = some none) (by kernel_rfl:PySem.W.findIn .m (.d 412) "source" = some none) 
 have f13:iu pg w .m mg base 2 "Out" 528 1 (Rb):=Kh k6 l6 e8 .bS f8 (by kernel_rfl:PySem.W.findIn .m (.d 528) "source" = some none) 
 have g13:Def pg w .m mg base 6 "read_part" 1 (N9):=yA o6 q6 r6 (Cc.mono .e) (a13.mono .e) (c13.mono .e) (d13.mono .e) (e13.mono .e) (f13.mono .e) p l10
 have i13:Def pg w .m mg base 7 "read_parts" 1 (Jz):=vA Z t6 u6 (g13.mono .e) d10
 have j13:Def pg w .m mg base 2 "refuse_names" 1 (Q1):=rC v6 y6 z6 .al u8 f8 y8 v9
 have k13:Def pg w .m mg base 1 "refuse_counts" 1 (QZ):=qg a7 b7 c7 q8 r8 u8 z7 v7 f8 v9 p o10 q10 r10
 have l13:zp pg w .m mg base 1 "free_names" 2 (Ll):=tY (P:=pg) (w:=w) (base:=base) (k:=0) d7 e7 f7 b10
 have o13:Def pg w .m mg base 2 "in_order" 1 (QU):=AB 100 g7 i7 j7 (l13.mono .e) .al y b8 o y8 v9 a10 p
 have t:iu pg w .m mg base 9 "Wiring" 597 1 (Rf):=Cd k7 l7 n .bS i8 (by kernel_rfl:PySem.W.findIn .m .gy "whole" = some none) (by kernel_rfl:PySem.W.findIn .m .gy "all_parts" = some none) (by kernel_rfl:PySem.W.findIn .m .gy "in_parts" = some none) (by kernel_rfl:PySem.W.findIn .m .gy "cell_parts" = some none) (by kernel_rfl:PySem.W.findIn .m .gy "out_parts" = some none) (by kernel_rfl:PySem.W.findIn .m .gy "inner_parts" = some none) (i13.mono .e) (j13.mono .e) (k13.mono .e) (o13.mono .e) q8 r8 u8 z7 v7 f8 t9 v9
 exact Mj (P:=pg) (w:=w) (base:=base) (k:=9) o7 (b11.mono .e) (s10.mono .e) (c11.mono .e) (f11.mono .e) (c12.mono .e) (d12.mono .e) (.bi ⟨e12.mono .e,.I⟩) (.bi ⟨f12.mono .e,.I⟩) (.bi ⟨g12.mono .e,.I⟩) (.bi ⟨i12.mono .e,.I⟩) (.bi ⟨j12.mono .e,.I⟩) (.bi ⟨k12.mono .e,.I⟩) (t.mono .e) z9 v9 p q9 r9
theorem walk {q:.ai}{loose:.U}{XP:.ij}{d:DefRec}(hn:d.name = "law")(i:d.params.defaults=[]):PySem.W.WalkO q loose XP hk.says lw.row.toRowW d [] .jz:=
 L2.Es (n:=63) (k:=10) (x := "_law_script") (CX:=fun _=>uQ) (K:=kk) (sp:=fun w=>spT .m 1 OE) rfl .e i ⟨rfl,.e,.e⟩ (fun _ _ Y=>PySem.W.kIn_of Y) (fun w mg fa h B G e=>all_mk B G (by rw [hn] at e;exact e))
  (fun w H a ns hl _ hS=>⟨rfl,H,[.scr .id],.bl true,aJ.refl H,⟨_,[],rfl,⟨a,ns.map V.int,rfl,hS,wG ns⟩,rfl⟩,Hv ns hl,fun _ _ v _ r=>r⟩) fun _ _ _ _ _ z=>z
end My
open PySem PySem.W PyProof.Rows
set_option maxHeartbeats 0 in
theorem PySem.Challenge.cw_echohouse_k21_wirings_told_holds : PySem.Challenge.rw_echohouse_k21_wirings_told.Holds := by
 refine holds_law My.ws fun said=>?_
 refine holds_open (q:=My.qv) (loose:=[]) (Xt:=My.xt) (XP:=XL My.qv []) My.hl (Hook.of My.hk) (Hook.keeps My.hk)
  (fun s e=>xl_of s (zbw.mp e).1) XL.keeps (by rfl) (by rfl) (by rfl)
  (fun s e=>recFacts_of (zbw.mp e).2) (by rfl) said .c ⟨rfl,rfl,rfl,rfl,rfl,.c⟩ ?hw ?hc
 case hw=>w_witness2
 case hc=>exact My.walk rfl rfl
