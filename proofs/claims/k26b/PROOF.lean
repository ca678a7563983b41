import PyProof.Rows.All
import Wide.All
import OpenK.AllK
import PySem.Challenge.RW_echohouse_k26_whole_runs_add_and_go_on
noncomputable section
set_option compiler.extract_closed false
local macro_rules | `(tactic| walk_at "sc")=>`(tactic| exact ⟨rfl,rfl,rfl,by decide +kernel,rfl,by decide +kernel,by decide +kernel⟩)
set_option Elab.async false
set_option linter.all false
set_option maxRecDepth 100000
set_option maxHeartbeats 4000000
local macro_rules | `(tactic| walk_at "ev")=>do
  let ns:List Lean.Name:=[`Bool.false_eq_true,`Bool.not_false,`Bool.not_true,`EB,`EC,`JF,`List.cons_append,`List.getElem?_cons_succ,`List.getElem?_cons_zero,`List.length_cons,`List.length_nil,`List.map_cons,`List.map_nil,`List.nil_append,`List.replicate_succ,`List.replicate_zero,`List.set_cons_succ,`List.set_cons_zero,`Nat.reduceAdd,`Nat.reduceLeDiff,`Nat.reduceSub,`Nat.sub_self,`Nat.zero_add,`Option.bind_none,`Option.bind_some,`and_self,`and_true,`beq_self_eq_true,`boolsOf,`sM,`kA,`cJ,`Sa,`JU,`ig,`decide_false,`decide_true,`aI,`kE,`hU,`eQ,`kh,`fC,`ak,`MQ,`mi,`ag,`Se,`sS,`G3,`fW,`zP,`dA,`eT,`fB,`bY,`ar,`cP,`ny,`au,`Dl,`Sf,`uU,`cT,`bx,`Dm,`aH,`Po,`bF,`bK,`qE,`du,`dB,`eh,`uV,`uW,`ae,`aX,`hV,`eJ,`ml,`Hg,`sX,`MW,`Fb,`gW,`Hi,`MX,`OI,`Hl,`Hm,`Hn,`Ho,`MY,`J9,`oS,`Ka,`aA,`ai,`bL,`bS,`if_false,`if_true,`DF,`Ac,`Ad,`B9,`Ae,`Fo,`Ca,`xY,`xZ,`yc,`Af,`yd,`Cb,`Ag,`va,`ye,`yf,`Ah,`yg,`Cc,`Ai,`vb,`yh,`yi,`Aj,`yj,`Cd,`Ak,`vc,`yk,`yl,`Am,`ym,`Ce,`An,`vd,`yo,`yp,`Ao,`yq,`Cf,`Ap,`ve,`yr,`yt,`Aq,`yu,`Cg,`Ar,`vf,`yw,`yx,`Au,`yy,`Ci,`Av,`vg,`ite_false,`ite_true,`Uk,`Ul,`Sv,`TF,`TH,`Um,`cN,`Uo,`ne_eq,`not_false_eq_true,`not_true_eq_false,`reduceCtorEq,`reduceIte,`QI,`ON,`true_and,`jf]
  let mut ls:Array (Lean.TSyntax `Lean.Parser.Tactic.simpLemma):=#[]
  for n in ns do
   unless (<- Lean.Macro.resolveGlobalName n).isEmpty do
    ls:=ls.push (<- `(Lean.Parser.Tactic.simpLemma| $(Lean.mkIdent n):ident))
  `(tactic| simp only [$[$ls],*, *])
def zaa:=@Option.bind_some
def zab:=@List.forall_mem_cons
def zac:=@List.mem_singleton
def zad:=@List.mem_cons_self
def zae:=@List.mem_cons_of_mem
def zaf:=@List.length_map
def zag:=@List.map_cons
def zah:=@List.mem_map
def zai:=@Nat.le_of_ble_eq_true
def zaj:=@List.length_cons
def zak:=@List.length_append
def zal:=@List.mem_filter
def zam:=@List.getElem?_set_self
def zan:=@List.getElem?_set_ne
def zao:=@List.mem_cons
def zap:=@Nat.le_refl
def zaq:=@List.mem_append_right
def zar:=@List.not_mem_nil
def zas:=@List.getElem?_eq_getElem
def zat:=@Nat.ne_of_lt
def zau:=@List.length_singleton
def zav:=@List.getElem?_eq_some_iff
def zaw:=@Nat.lt_of_lt_of_le
def zax:=@PySem.boot_len
def zay:=@List.map_append
def zaz:=@List.mem_append
def zaA:=@List.append_nil
def zaB:=@List.of_mem_zip
def zaC:=@List.map_map
def zaD:=@List.getD_eq_getElem?_getD
def zaE:=@List.size_toArray
def zaF:=@PySem.mem_of_lookup
def zaG:=@Nat.le_trans
def zaH:=@List.mem_append_left
def zaI:=@List.nodup_append
def zaJ:=@List.append_assoc
def zaK:=@Nat.lt_of_le_of_lt
def zaL:=@List.mem_range
def zaM:=@List.replicate_succ
def zaN:=@PyProof.Rows.callWith_type1
def zaO:=@PySem.W.kia_one
def zaP:=@Nat.lt_irrefl
def zaQ:=@Nat.lt_succ_of_lt
def zaR:=@Bool.false_ne_true
def zaS:=@Nat.lt_trans
def zaT:=@Option.some.inj
def zaU:=@List.forall_mem_singleton
def zaV:=@List.length_take
def zaW:=@Int.toNat_natCast
def zaX:=@List.flatten_cons
def zaY:=@List.filterMap_cons_some
def zaZ:=@Int.natAbs_mul
def za0:=@List.nodup_cons
def za1:=@List.length_zip
def za2:=@List.length_drop
def za3:=@Int.fmod_eq_emod_of_nonneg
def za4:=@Nat.zero_le
def za5:=@List.getElem?_map
def za6:=@Nat.ne_of_gt
def za7:=@List.nil_append
def za8:=@List.filterMap_append
def za9:=@Nat.mod_lt
def zba:=@List.filter_append
def zbb:=@List.filter_cons_of_pos
def zbc:=@List.length_range
def zbd:=@List.map_congr_left
def zbe:=@Array.getElem?_eq_some_iff
def zbf:=@Int.fdiv_eq_ediv_of_nonneg
def zbg:=@Nat.lt_succ_self
def zbh:=@List.lookup_cons
def zbi:=@List.mem_filterMap
def zbj:=@List.length_replicate
def zbk:=@PySem.F.slot_str_join
def zbl:=@PySem.F.type_str_join
def zbm:=@PySem.wpAny_isSubtype_exc
def zbn:=@List.drop_eq_getElem_cons
def zbo:=@List.reverse_cons
def zbp:=@Nat.min_eq_left
def zbq:=@Int.mul_left_comm
def zbr:=@Int.mul_comm
def zbs:=@Int.mul_assoc
def zbt:=@Nat.pos_of_ne_zero
def zbu:=@Nat.le_succ
def zbv:=@Bool.beq_eq_decide_eq
def zbw:=@List.length_nil
def zbx:=@Rat.intCast_mul
def zby:=@Int.gcd_dvd_right
def zbz:=@Rat.divInt_eq_div
def zbA:=@List.mem_of_getElem?
def zbB:=@Nat.Coprime.gcd_mul_left_cancel_right
def zbC:=@Nat.mul_le_mul_right
def zbD:=@List.nodup_nil
def zbE:=@List.drop_length
def zbF:=@Array.length_toList
def zbG:=@PySem.F.slot_dict_itemiterator_iter
def zbH:=@List.filterMap_cons_none
def zbI:=@PySem.F.plainAttrs_list
def zbJ:=@List.zip_cons_cons
def zbK:=@Bool.true_and
def zbL:=@PySem.W.kitx_list
def zbM:=@PyProof.Rows.slot_tuple_getitem
def zbN:=@Nat.div_lt_iff_lt_mul
def zbO:=@List.length_filter_le
def zbP:=@Bool.and_eq_true
def zbQ:=@PySem.F.slot_str_removeprefix
def zbR:=@PySem.F.type_str_removeprefix
def zbS:=@Int.gcd_dvd_left
def zbT:=@List.all_eq_true
def zbU:=@Rat.intCast_zero
def zbV:=@Bool.and_eq_true_iff
def zbW:=@Int.natAbs_of_nonneg
def zbX:=@List.map_take
def zbY:=@PySem.W.plainGet_of
def zbZ:=@List.length_reverse
def zb0:=@List.getElem_of_mem
def zb1:=@Nat.div_add_mod
def zb2:=@Int.mul_pos
def zb3:=@List.getElem?_range
def zb4:=@Rat.intCast_inj
def zb5:=@Nat.le_of_lt
def zb6:=@PySem.W.callWith_K
def zb7:=@Int.natAbs_natCast
def zb8:=@Nat.mul_le_mul
def zb9:=@PySem.W.kitx_dict
def zca:=@List.ext_getElem?
def zcb:=@Option.isSome_map
def zcc:=@Nat.le_add_right
def zcd:=@List.take_length
def zce:=@Int.gcd_mul_left
def zcf:=@List.cons_append
def zcg:=@Nat.add_comm
def zch:=@List.all_map
def zci:=@Nat.gcd_comm
set_option hygiene false
local macro_rules|`(.$c:ident)=>do
 let some i:="a c e f h i j l m o p q r s t u v x y z B D G H I J L M O Q R S U V X Y Z aa ab ac ad ae af ag ah ai aj ak al am an ao ap aq ar au av aw ax ay az aA aB aC aD aE aF aG aH aI aJ aK aL aM aN aO aP aQ aR aS".splitOn.idxOf? c.getId.toString|Lean.Macro.throwUnsupported
 let a<-`([(by kernel_rfl),
(by decide +kernel),
(by omega),
(by decide),
(by simp),
(by assumption),
(by simp;omega),
(PySem.W.Frag),
((kk w.params)),
(Value->Shared->Prop),
((Or.inl rfl)),
((.str "echohouse.parts" 606)),
((.str "echohouse.errors" 187)),
((.str "law_echohouse_k26_whole_runs_add_and_go_on" 1113)),
((model X.prog X.w)),
(Inv X pins σ H s),
(List (Addr×Obj)),
((fun _ _=>rfl)),
((lX X scope N' C cs Y8 Y9 fp pins)),
((.str "abcdefghijklmnopqrstuvwxyz")),
((.str "echohouse.wiring" 905)),
(List Nat),
(s (.lst (ps.map Pt.obj))),
(Str->Option Value),
((zab.mpr ⟨⟨t8,.a,.a,.a,.a,.a⟩,(zab.mpr ⟨⟨r8,.a,.a,.a,.a,.a⟩,(zab.mpr ⟨⟨v8,.a,.a,.a,.a,.a⟩,(zab.mpr ⟨⟨z8,.a,.a,.a,.a,.a⟩,(zab.mpr ⟨⟨b9,.a,.a,.a,.a,.a⟩,(zab.mpr ⟨⟨d9,.a,.a,.a,.a,.a⟩,(zab.mpr ⟨⟨o8,.a,.a,.a,.a,.a⟩,(fun _ h=>absurd h zar)⟩)⟩)⟩)⟩)⟩)⟩)⟩)),
((.lst (ps.map Pt.law))),
((ah (ah az))),
((x == ("__debug__" : Str))),
(List T->Option T),
((model prog w)),
(List (List Nat)),
(List Value),
((.bl false)),
(List Str),
([s (tx (gX a b)),s (tx (sgn a++ds a.natAbs)),s (tx m),s (tx (ds b)),none]),
((.builtin "object.__new__")),
(#[some (.c 15),none,some (.str "EchoError" 189),some (.str "EchoError" 197),some (.builtin "ValueError.__new__"),some (.bool true)]),
((fun _ h=>absurd h zar)),
(["self","values"]),
(Heap.get?_push_size _ rfl),
(List (List Rat)),
((.builtin "ValueError.__new__")),
(List Addr),
([s (lj sc),.e c,s (bf a),s (bf b),s (bf o),s (bf m),s (cn (eU nm (a+1+b+m))),s (cn (eU nm (a+1+b))),none,none,none,none]),
(Program),
((bj.refl sm)),
((sgn a++ds a.natAbs)),
(.type "object"),
(⟨_,rfl⟩),
(s (.lst [cz (inp 0),cz (inp 1)])),
((by simpa using h)),
("_law_cell_here"),
(List Pt),
((.bool true)),
(⟨.type "tuple", none,.seq #[] 0,#[]⟩),
((.ListComp elt [⟨tg,iter,l,0⟩] scope pos)),
(List Expr),
(xX n [g,E,J,d3,m,o,z] ws [] none),
((fun _ _ _ _ _ _=>bT)),
(⟨x,H1,O,r1,q1⟩),
((by simpa using aR .e)),
((wT ps Q)),
(Option Sl),
(aJ K Y0 Y9 F H σ τ),
((pL X.env scope.names [])),
((fun _ _=>False)),
((Heap.lt_size e)),
((A.deeper (envOfC qual (ax st) s.heap.objs.size f cdv))),
(((List.range (a+1)).map (fun i=>(Pt.inp (nm i)).law)++is.map Pt.law)),
([topFrame ⟨0,0,0,0⟩]),
([.tup [cz y0,qT z0],.tup [cz y3,qT z3]]),
((nY cM cI [(ic,false),(dR,false),(dz,false),(cM,true),(cI,true),(eW,false),(dN,false)])),
(.type "BaseException"),
(.type "tuple"),
([s (lj sc),s .J,s .aA,.e ((dm ps).length:Nat),.e ((cG ps).length:Nat),.j t,s (cm q),none,none,none,none,none,none,none,none,none]),
(⟨absHeap (uz w.params) 815 {},Array.mk [],boot_drawn,1258,os⟩),
((.Call (.Name x p) (e::es) [] pos)),
([Str.ofString "name", Str.ofString "source", Str.ofString "by", Str.ofString "terms"]),
((au br (ae 1) (au dU (au aT (.c br 2 0) (au cL (ae 3) (.j gn (.c il 0 4)))) (aF 26)))),
([s o,s (.dct ns ts),s (cm q),.e (Bb u.1),s (tx u.2)])])
 return a.raw[1][2*i][1]
local macro_rules|`(.$c:ident)=>do
 let some i:="aT aU aV aW aX aY aZ a0 a1 a2 a3 a4 a5 a6 a7 a8 a9 ba bb bc be bf bg bh bi bj bm bn bo bp bq br bt bu bv bw bx bz bA bB bC bD bE bF bG bH bI bJ bK bL bM bN bO bP bQ bR bS bT bU bV bW bX bY bZ b0 b1 b2 b3 b4 b5 b6 b7 b8 b9 ca cb cd cf cg ch".splitOn.idxOf? c.getId.toString|Lean.Macro.throwUnsupported
 let a<-`([(["self"]),
((fun _ _ _ _ _ _=>(aa 0 (pv 0)))),
((bJ rfl)),
((Addr×(List T->Option T))),
((List.replicate (36-(ds (n%10^36)).length) 48++ds (n%10^36))),
((.dct (nS al) (oE al))),
([s (tx (Pt.sum n ts).row),s (tx (Pt.sum n ts).kind),s (cn (Pt.sum n ts).args)]),
((∀c o,c≠z->c≠TO->c≠i1->c≠i2->s.heap.get? c=some o->h'.get? c=some o)),
(⟨absHeap (T w.params) n {},Array.mk [],boot_drawn,k,os⟩),
((k == NameKind.free&&env.scope.kind == .function&&env.kindOf n == some .cell)),
((s.heap.objs.size+1)),
((gX q.num q.den)),
((by rw [zak,zau];omega)),
((.ref s.heap.objs.size)),
([.ref 31,.type "ValueError", .type "Exception", .aL, .ak]),
((s1.trans s2)),
((s (.tup [cz (lcs q y0 y3),qT (lc q z0 z3)]))),
((.dK kvs)),
((ha pins s σ H _ I h)),
(.type "ValueError"),
(iS X.prog X.w X.K X.mg X.base CX k f fd ps sp),
(X.A.units+64<cLine),
((⟨RM w.params,15,{},#[],PySem.W.boot_drawn,187,os⟩:PySem.W.SharedT)),
((zac.mpr rfl)),
((.str "echohouse.fracs" 519)),
(List Nat->Nat),
((.j kA (bq 1 [2] (aX (ae 1)) (ai 0) aI (.c OH 0 1)))),
([s (cz xs),s (cm b),s (cz ys),.o (acc.map qT),s (qT z.1),s (qT z.2)]),
((fun z=>nomatch z)),
(.type "Exception"),
(fun y R hk=>I.ok.has y.1 (B.free y R hk).1),
((starEach es X.env)),
(X.calm=true),
([s (lj sc),.e c,none,none,none,none,none,none,none,none,none,none]),
((ck rfl rfl)),
([.l n,s (nt [g,E,J,d3,m,o,z]),s (cn ws),none,none]),
([.l (gX a b),s (tx .aj),.l m,.l (ds b),s (zv a b)]),
(.tup [.ty "list", .ty "tuple"]),
([s (tx p.nam),s (cn (Wp ps p)),s (cn c)]),
(List Stmt),
(List Rat),
(Heap.get?_push_of_some _ q),
([97+(tail.getD j 0+k*(if j=a then 1 else 0))%26]),
((bM rfl)),
((aN rfl)),
(List T->aE->Option aE),
((au aT (au br (eT (.e (fC (.str " -")) (fC (.str " ")))) (ak gn (ag (.i zw 0) ar))) (ae 1))),
((cq no cap (frzAll cap τ1))),
((cq no cap (frzAll cap p.2))),
((List Nat)),
((.inl rfl)),
([s t, s (.ptr a), s p.obj, none]),
((ls.map fun l=>PyData.str (S l))),
((eQ 8 (eh (ag (fC (.str "cell")) (.e (au br (ae 6) (.y 9)) (au br (ae 7) (.c br 11 9))))))),
((bq 1 [] (sV (ae 0)) (ai 0) aI (.e qR 0 (.str "0123456789")))),
(X.env.scope.names.lookup y=some .local),
([.l n,s (cn (ts.map nh)),s (.tup (ts.map jV))]),
(bW (fun m=>by rw [zac.mp m,ha] at h2;cases h2)),
((bS (.a 0 1))),
("_law_script"),
(List (Key×V)),
(⟨.a,.a,.a,.a⟩),
([s (lj sc),s .J,s .aA,none,none,none,none,none,none,none,none,none,none,none,none,none]),
(["one","other"]),
((wpAny_pure ?_)),
((ps.map Pt.obj)),
((by kernel_rfl)),
((.str "echohouse.divisors" 434)),
((.bl true)),
([s (lj sc),none,none,none,none,none,none,none,none,none,none,none,none,none,none,none]),
([s (lj sc),.e c,.j a,.j b,.j o,.j m,s (cn (eU nm (a+1+b+m))),none,none,none,none,none]),
(⟨.a,.a,.a⟩),
((zap _)),
((bh (bh eC))),
((s (bf k))),
((ha Y0 Y9)),
(⟨.bl _,H,I,rfl,q F H _ .ai rfl⟩),
(N'.length=no+cap.length),
((by simp only [List.size_toArray]<;>omega)),
((ak .aK (.c 0 (eh (.e (fC (.ptr cM)) (fC (.ptr cI)))))))])
 return a.raw[1][2*i][1]
local macro_rules|`(.$c:ident)=>do
 let some i:="ci cj ck cm cn cq cr cs cu cv cw cx cy cz cA cB cC cD cE cF cG cH cI cJ cK cL cM cN cO cP cQ cR cS cT cU cV cW cX cY cZ c1 c2 c3 c4 c5 c6 c7 c8 c9 da db dd de df dg dh di dk dl dm dn dq dr ds dt du dv dw dx dy dz dA dB dC dD dE dF dG dH dI".splitOn.idxOf? c.getId.toString|Lean.Macro.throwUnsupported
 let a<-`([((eU nm (a+1+b+m))),
(((sg++ds a.natAbs)++[47])),
((.c 1 (eT (ag (aF 2) (ag (aF 5) (.e (aF 2) (aF 9))))))),
(([e].length+([]:List Keyword).length+(if ([]:List Keyword).isEmpty then 0 else 1)<30)),
((fun _ _ _ _ _ _ => bT)),
((["part"]:List Str).Nodup),
((textOf ps)),
((he pins s σ H _ I h)),
(mg "isinstance" = none),
(Array Value),
((fun r s'=>r=.ok (.ret .aq)/\OldK g.heap s'.heap/\s'.os=g.os/\AllBare s'.gens)),
(s (D1 ps)),
(Nat->List Nat),
((eQ 8 (eh (.e (fC (.str "out")) (au br (ae 7) (au br (ae 11) (.c aT 3 9))))))),
((valOf al)),
((s (.lst [.tup [cz ys,qT z],R]))),
((by simp [Pt.kind])),
((by rw [List.length_append];simp;omega)),
((Int.gcd (a*d.fdiv s+c*b.fdiv s) s:Nat)),
(mg "len" = none),
(["_law_part"]),
((⟨uz w.params,815,{},#[],PySem.W.boot_drawn,1258,os⟩:PySem.W.SharedT)),
((.Name x pos)),
((cellsFrom (s2.heap.objs.size+2) scope.names .aD)),
(Heap.get?_push_of_some _ e),
((fun cdv A outer s H vs Q E hr z=>?_)),
((PySem.W.fnOf x qual (kC st) (fw st) (ax st) .none kV doc pm an cdv ct)),
((.lst [qT x0,qT x1])),
(List (Str×NameKind)),
("source"),
((eU nm N)),
(s (.dct (ns.map S) vs)),
(T->T->Option T),
((au (qQ false) (ae 0) (ae 1))),
((EP X pins σ Q)),
((.builtin "object.__class__")),
((.builtin "type.__call__" ⟨.ref C::us,kw⟩)),
((I.ok.hd U)),
((.a br 0 1)),
(Option Addr),
([s (lj sc),none,none,none,none,none,none,none,none,none,none,none]),
([s (lj sc),.e c,.j a,.j b,.j o,.j m,none,none,none,none,none,none]),
((s2.heap.objs.size+1)),
((fun _=>rfl)),
((by rw [E.len];exact hl)),
(acc.length+(l.length+1)≤sizeLine),
((zai rfl)),
((h Y0 Y9)),
((dJ [c,b,g] "source" (ae 0))),
((s.heap.objs.size+2)),
(SI X tg iter fi),
((aQ rfl rfl rfl)),
((.Name x p1)),
((nX hu hx U B J d hi M Y hk he I E e2 ha e3 fun D C s' Z=>?_)),
(((ps.filter Pt.isIn).length:Nat)),
(List (Str×Addr)),
((some v)),
([.e c,.j n,s .z,.e ((1+H:Nat):Int),none,none,none,none,none]),
([.e c,.j n,s .z,.e ((1+H:Nat):Int),.j a,none,none,none,none]),
((zah.mpr ⟨p,zal.mpr ⟨hp,q2⟩,rfl⟩)),
((.lst ts)),
((by simpa using hi)),
((aX (ae 0))),
((.none)),
(eP K x qual st f fd),
((zaq _ (zaq _ (gJ hb e)))),
(some (.own [])),
([.int a,.int b]),
((s (qT (lc q x0 x1)))),
((Or.inr rfl)),
((Addr×Bool)),
((.frz o .ba)),
(V->Option Int->Option Int->Hp->VK->Prop),
(Option Value),
(List (Bool×List Nat)),
((hb Y0 Y9)),
(⟨.aM, none,.seq #[.int (0) 521,.int (1) 522] 0,#[]⟩),
([.e c,s (nt bs)]),
("_law_digits_here"),
(Unit->Shared->Prop)])
 return a.raw[1][2*i][1]
local macro_rules|`(.$c:ident)=>do
 let some i:="dJ dL dM dN dO dP dQ dR dS dU dV dW dX dY dZ d0 d1 d2 d3 d4 d5 d6 d7 d8 d9 ea eb ec ed ee ef eg eh ei ej ek el em en eo ep eq er es et eu ev ew ey ez eA eB eC eD eE eF eG eH eI eJ eK eL eM eN eO eP eQ eR eS eT eU eV eW eX eY eZ e0 e1 e2 e3".splitOn.idxOf? c.getId.toString|Lean.Macro.throwUnsupported
 let a<-`([(List (List Key×V)),
((sJ CX P w K mg base N qual scope f cdv A outer s H E)),
((s (cn (free ps c)))),
((bx (au dG (fC (.str "")) (kF 1 (cT (uV oS (aF 1))))))),
((backToKw pos (keywordEach [] X.env))),
((SW.st (mV (.o (.a 1) bG) (jz (di (.m i (.v 2 ao))))))),
(cu rfl ?_),
(Result->Shared->Prop),
((List Key×Addr×Value)),
((.builtin id)),
([fP (.scr (ns.map T.int)),fP (bf k)]),
((PySem.W.instObj C s.heap.objs.size)),
(fun pins s σ H Q I q=>h pins s σ H Q I (i σ H Q q)),
(decide_eq_decide.mpr .e),
(ZipApart z TI TO i1 i2 l1 l2),
(Value->Value->Sem Value),
(Gp ps r),
([s (tx l)]),
((s (bf d))),
((Int.gcd a b:Int)),
(List (Str×Value)),
(⟨_,.ac,rfl,rfl⟩),
([.l n,.l .a4,.l w,s (cm q)]),
((apos.endLine == cpos.line)),
((aW.refl _)),
((.e (.a fK 0 64) (au xT (eT (.ac (aF 26))) (ae 3)))),
((.Tuple elts kx px)),
((by rw [xex];exact hb)),
("_law_many"),
(PassesOwn .t X.A X.env X.xe),
("_law_k"),
(List Int),
((fun b o hb e=>(N.2 b hb).trans e)),
(((ps.filter Pt.isCell).length:Nat)),
((ha pos pins s σ H _ I h)),
(fX (t:=t) rfl rfl ⟨zar,.f⟩ rfl),
(uR K Y0 Y9 F H σ τ x p d),
([none,s .z,s (nt tail),.j k,.j a]),
([.l (gX a b),none,none,none,none]),
([.j j,s .z,s (nt tail),.j k,.j a]),
([.ao,"_law_bases"]),
(["_law_laid_here"]),
((s (.lst [cz gs,i1]))),
((gD items.size items.size hi-gD items.size 0 lo)),
((eh (ag (fC (.str "in")) (bI 0)))),
((.z (.ptr p))),
((.al vs)),
(.type "type"),
(.f (wpAny_standAt (.G (?_:wpAny _ X.A _ _ _ s)))),
(List (κ×V)),
((.af i)),
(["cells","ins","start","inputs"]),
((aO aP (.h 10) ao .x)),
((qE (ae 1) (cT (aF 3)) (cT (.Q (aF 3) (.S 1))))),
((.Q (au aT (.a cL 3 48271) (.B 7919 4)) (aF 1))),
((au zw (uV sX (ae 1)) (aF 4000))),
((Shared.heap ⟨hp,g,d,tk,os⟩)),
([.e c,.j n,s .z,none,none,none,none,none,none]),
(IsPair s.heap TI (.c i1) (.c i2)),
((.al xs)),
(((dm ps).length:Nat)),
(((cG ps).length:Nat)),
([.G,none,none,none,none]),
(["self","name","by",.cP]),
((qE (ae 6) cP (cT (.a aT 2 1)))),
((ps.map Pt.law)),
((kvs.any fun G=>decide (G.1=k))),
((he Y0 Y9)),
((fun b o _ _ U e _=>⟨o.slots,kp b o U e⟩)),
((.ref s2.heap.objs.size)),
((.i br 0)),
((.BoolOp .And (a::b::rest) pos)),
(List Env),
(FuncData),
(q F H _ .ai rfl),
(if_pos rfl),
(lW P w H h),
(Option Int),
(Loc X.env.scope x),
(Binds K fd .aT [])])
 return a.raw[1][2*i][1]
local macro_rules|`(.$c:ident)=>do
 let some i:="e4 e5 e6 e7 e8 e9 fa fb fc fd fe ff fg fi fj fk fm fo fq ft fu fv fw fx fy fz fA fB fC fD fE fF fG fH fI fJ fK fL fM fN fO fP fQ fR fS fT fU fV fW fX fY fZ f0 f1 f2 f3 f4 f5 f6 f7 f8 f9 ga gb gc gd ge gf gg gh gj gk gl gm gn gq gr gs gt gu".splitOn.idxOf? c.getId.toString|Lean.Macro.throwUnsupported
 let a<-`([((fun b o hb e=>kk b o (by simpa using hb) e)),
((.Call (.ab m) (e::es) [] pos)),
([.G,.cx,none,none,none]),
(["self","name","terms"]),
((ls.map tx)),
((if k=f then (k,v)::r else (k,x)::kM f v r)),
((gE.of (sm _ _ h1))),
((fun x=>some (T.str x))),
((by rw [zaf];omega)),
((.z (.dct d.1 d.2))),
((.type "BaseException")),
((.t (.a 2))),
((.Tuple [a,b] k2 k)),
(.type "dict"),
(q _ _ _ A ⟨l,xs,rfl,aM,aU.mono A.sF h2⟩),
(typeOf .dU=pure (.type "method_descriptor")),
(V->List V->Hp->VK->Prop),
([.type "object"]),
((au Fe (aF 10) (aF 36))),
((upd H8 s2.heap.objs.size (.al (vs++[y])))),
(([]++(List.range 2).map fun k=>cz (inp k))),
((.tup xs)),
((.str "")),
((.q (ib (b:=1)))),
(s (D2 ps)),
(df (hl pins s σ H _ I h) fun v s1 .ay=>?_),
(mg m=some (.c C)),
(f τ=some (t,τ)),
(X.N.Nodup),
((dJ [i] "cell_parts" (ae 0))),
((by simpa using e)),
((by rw [e];exact True.intro)),
((.str x)),
((.Compare a [i,l] [b,c] pos)),
((.BoolOp .And (b::rest) pos)),
(((.L) τ ts τ' e)),
(Meth K C "tells" f),
(Binds X.K fd ps ds),
([.l (gX a b),s (tx .aj),.l m,.l w,none]),
(["self","name"]),
(["_law_script"]),
((ho pins s2 σ H2 x y v u _ K r1 r2 q2)),
((h1.ext fun o e=>sa.extBut _ _ D.i1z e)),
((fun _ _=>True)),
((Str.ofString "0123456789")),
((Obj.mapSeq (fun _=>(#[]:Array Value)))),
("_law_other"),
("EchoError"),
(Rep K F t v),
([.Tuple [.Name x px,.Name y py] kt pt]),
((ys0++[(kL ps).map fun p=>p.told .cA])),
((s (qT g))),
((j.ext fun o e=>sa.extBut _ _ D.l1z e)),
((dh a (.a 0))),
((I.hok.fresh .b8)),
((.Tuple es k pos)),
((.Name nx q1)),
((by simpa [apart] using k)),
(.ref 349),
(eI X scope),
(List T->Option uM),
(Binds K fd .ab []),
([.type "ValueError"]),
([.Tuple [.Name x px,.Name y n] kt pt]),
(["_law_rows","_law_by","_law_others"]),
((wu (aA (ai 2) (aA (ai 3) (.a 4 5))))),
((vO w x g a (s z.1.obj) (s (cm z.2)))),
(((free ps c).map fun n=>O.val (tx n))),
(IsZip s.heap z TI TO .none),
(.tup [.int c,.int d]),
([.G,s (.ptr a),none,none]),
((uV oS (aF 1))),
((hb pins s1 σ H1 _ O q1)),
((Q.map Pt.obj)),
((DK P c qs (s p.law) .d3)),
((.Call (.ab m) [] [] pos)),
((.lst [qT x,xs])),
((.builtin "len")),
(PE X a ta),
(Def P w K mg base k "_law_drawn" 2 a)])
 return a.raw[1][2*i][1]
local macro_rules|`(.$c:ident)=>do
 let some i:="gv gw gx gy gz gA gB gC gE gF gG gH gI gJ gK gL gM gN gO gP gQ gR gS gT gU gV gW gX gY gZ g0 g1 g2 g3 g4 g5 g6 g7 g8 g9 hc hf hg hh hj hq hr hs ht hu hv hw hy hA hB hC hD hE hF hG hH hJ hK hL hM hN hP hQ hR hS hT hU".splitOn.idxOf? c.getId.toString|Lean.Macro.throwUnsupported
 let a<-`([([s1.heap.objs.size]),
(["self","name",.cP]),
((starEach [] X.env)),
((revObj l ((G.toArray.size:Int)-1))),
((model P w)),
((b∈X.ex\/X.Y8.heap.objs.size≤b)),
((by rw [List.size_toArray]<;>omega)),
((.tup [kV G.1,G.2])),
(((n%10^36:Nat):Int)),
(SE X e f),
(List T->Option O),
(List (κ×Value)),
([.ref 349]),
((l.map fun _=>T.bl true)),
((.Compare a [i] [b] pos)),
((∀x∈l,ft (E x)=some (f x,E x))),
((zat (zaw .aF (I.ok.cab x c t U)))),
((au Fd (sT 3 (.l cJ 3)) (.l wb 1))),
(aU K F ts vs),
(⟨0,0,0,0⟩),
(["text"]),
((tupleKind_room_in1 hu)),
((ts,τ')),
((s1.trans A.sF)),
((ps.map Pt.obj,τ)),
((p2.endLine == p3.line)),
((fun b o U e=>⟨o,kp b o U e⟩)),
((binaryOp .Add)),
((a+1+b+k)),
(([],[])),
((.call (.c fa) ⟨[.ref a],[]⟩)),
((.c it)),
((.builtin "isinstance")),
(((ps.filter Pt.isOut).length:Nat)),
(((ps.filter Pt.inner).map Pt.law)),
(decide_eq_false .e),
(I.tok _),
(kr c2 s.heap l2 ys),
(kr c1 s.heap l1 xs),
(aK N ps (ax st)),
(Str.ofString k=S l),
(SE X a fa),
(Meth K C "wants" f),
(List Nat->Rat),
([none,s .aA,s .cN,.am]),
([.bV,"_law_start",.ed]),
((fun m=>hb (zac.mp m))),
((putK kvs k v).length≤sizeLine),
(Def P w K mg base k "common" 2 N),
([.l .cr, .dv, none, none, none]),
((tx p.row)),
((ls.map S)),
((g i j)),
((fun b o _ _ U e _=>kp b o U e)),
((cg (.a 0))),
((bQ (.ac (aF 2)))),
((.str "-")),
(((kL ps).map fun p=>p.told .cA)),
(((hide τ).set i (.z (.al us)))),
(String->Option Builtin),
((SP X pins Dn)),
((.type "list")),
((.ptr x)),
((.c 615)),
(Heap.size_push ..),
(.ty "tuple"),
(.ty "list"),
("_law_parts_here"),
("_law_one"),
(H a=some (.ax fs)),
((Str->Option Value)->Heap->Prop),
([s (Pt.sum n ts).law])])
 return a.raw[1][2*i][1]
local macro_rules|`(.$c:ident $x)=>do
 let some i:="a c e f h i j l m o p q r s t u v x y z B D G H I J L M O Q R S U V X Y Z aa ab ac ad ae af ag ah ai aj ak al am an ao ap aq ar au av aw ax ay az aA aB aC aD aE aF aG aH aI aJ aK aL aM aN aO aP aQ aR aS".splitOn.idxOf? c.getId.toString|Lean.Macro.throwUnsupported
 let a<-`([((aa $x  (pv $x))),
((.ref $x)),
(s (.int $x)),
(wpAny_bind $x ),
((aO aP (.a $x) ao .x)),
((aY dr rfl r zax (af $x  aj))),
(s (bf $x)),
(s (tx $x)),
((false,eval $x  X.env)),
(some (.own $x)),
((upd $x  p (.frz o (.dK (cK d.1 vs))))),
((aQ rfl rfl $x)),
((aZ (aD 0 $x  rfl .p) (aZ (aD 1 $x  rfl .p) cY))),
((some (.own $x))),
((aO aP $x  ao (fun _ _ => rfl))),
((fun _ _ _ _ _ _ => $x)),
((.e (au aT (ak $x  (.c 0 (au aT (aF 4) (ae 9)))) (au cL (aF 7919) (ae 9))) (eT (ag (aF 5) (ag (aF 199) (ag (aF 12) (ag (aF 48) (ag (aF 48) (ag (aF 48) (ag (aF 48) ar)))))))))),
(⟨.type "type", none,.cls $x,#[none,none,some (.str "Part" 608),some (.str "Part" 616),some .Y,some .aq]⟩),
((au aT (.a aT 2 1) (ae $x))),
((some (.sh $x))),
((ts.map (fun t=>some (Sl.sh t))++List.replicate $x  none)),
(.DictComp kx $x  [⟨tg,iter,l,0⟩] scope pos),
((wpAny_bind $x)),
((Heap.get?_push_of_some _ $x)),
((af (.a $x) aj)),
(df (ha Y0 Y9 pos pins s σ H $x  I ⟨F,τ,_,_,E,e2,fun F' H' vs Z s' B=>?_⟩) fun vs s1 ⟨i,H1,O,r1,q1⟩=>?_),
((segRun_of (congrFun $x  os))),
((aw (aV $x))),
((upd H s.heap.objs.size $x)),
((df (wpAny_comprehension_free rfl hs (iW G) B.kind B.names $x) fun _ s' hq=>wpAny_pure (wpAny_pure hq))),
((fun _ _ _ _ _ _=>(eS rfl $x  (bh (bh eC))))),
((.a br $x  0)),
((some (.c $x))),
((.e (ak $x  (.c 0 (aF 2))) (au xT (eT (ag (ak cJ (bI 7)) ar)) (au aT (.c aT 3 4) (aF 1))))),
((au br (ae $x) (aF $x))),
((List.mem_cons_of_mem _ $x)),
((eval $x  X.env)),
(zab.mpr ⟨ $x,.aa⟩),
((.Attribute o $x  apos)),
((ag $x  ar)),
(piece_app (.L $x) ?_),
((compareOp $x)),
((.int $x)),
(dJ [dR,dz,cM,cI] "name" (ae $x)),
((aY (pT rfl) rfl a rfl (af $x  aj))),
((fun _ _ _ _ _ _=>(gC $x))),
((af $x  aj)),
(O.fpOk $x  (O.hok.fresh $x)),
((.lst $x)),
((aB _ .aV $x)),
((ik uY uY (aF 1) (.l cJ 0) (aF $x))),
(wpAny_pure $x ),
(if_pos $x ),
(dJ [j,c,b,h] "name" (ae $x)),
((.cons $x  .nil)),
(q _ _ _ (T.grow A) (((s1.trans s2).trans w).trans A.sF) $x ),
((.u (aD 0 $x  rfl .p))),
((.lst (List.replicate k.toNat $x).flatten)),
((.ins C dx $x)),
((dQ $x  (aw eZ) bO)),
((envOfC qual scope s.heap.objs.size f $x)),
((.bl (decide $x))),
((au br (ae 2) (au dU $x  (ak cJ (bI 2))))),
((au il $x  (fC (.str (Str.ofString k))))),
((aX (cv LW "wants" (ae $x) ar))),
((lA hr.units (.a 1) $x  .x)),
((au br (.S 10) (aF $x))),
((ak $x  (ag (ae 1) (ag (.Q (aF 16) (.B 4 0)) (bI 2))))),
((Int.gcd $x  b:Nat)),
((Heap.get?_push_size _ $x)),
((wI sc c a b o m .cQ (eU nm (a+1+b+k)) ts $x  l none)),
(cv [ $x ] "run" (ae 1) (.e (.c br 2 0) (.c br 3 0))),
((if (S l).length≤sizeLine then some $x  else none)),
((bU hG rfl l rfl $x)),
((ak $x  (.c 2 (au iY (ae 1) (ae 4))))),
(s (cn $x)),
(¬ $x ∈([]++[Str.ofString "name"]:List Str)),
((handleBy (.c a) X.env $x)),
((aD $x  bz.nd rfl .p)),
((Heap.lt_size $x))])
 return a.raw[1][2*i][1]
local macro_rules|`(.$c:ident $x)=>do
 let some i:="aT aU aV aW aX aY aZ a0 a1 a2 a3 a4 a5 a6 a7 a8 a9 ba bb bc be bf bg".splitOn.idxOf? c.getId.toString|Lean.Macro.throwUnsupported
 let a<-`([((zae _ $x)),
((wpAny_pure $x)),
((Int.gcd $x  d:Nat)),
((wpAny_assign_Name $x :wpAny _ X.A _ _ _ _)),
((.a br $x  1)),
(s (cm $x)),
(⟨⟨_, $x⟩,.a⟩),
((iw zbk zbl mD mm bG $x)),
((bx (ae $x))),
((Ne.symm $x)),
((vO w x g a $x  c)),
((List.range $x)),
((Li fun i j=>.bl (decide $x))),
((.e (.aa $x  (aF 1)) (.Q (.y 3) (ae 5)))),
(wpAny_passesOwn hp $x ),
(ma (ts:=ts) rfl $x  (bN .e)),
(List.filter_cons_of_neg $x ),
((fA rfl d (.I $x))),
((cq no cap $x)),
((T.bl (decide $x))),
((HY c n sz a tail ts .ca $x)),
((.Constant $x  j pos)),
(.inr $x )])
 return a.raw[1][2*i][1]
local macro_rules|`(.$c:ident $x $y)=>do
 let some i:="a c e f h i j l m o p q r s t u v x y z B D G H I J L M O Q R S U V X Y Z aa ab ac ad ae af ag ah ai aj ak al am an ao ap aq ar".splitOn.idxOf? c.getId.toString|Lean.Macro.throwUnsupported
 let a<-`([((aA (ai $x) (aA (ai $y) bL))),
((ag (ae $x) (ag $y  ar))),
((ag $x  (ag $y  ar))),
((af $x  (af $y  aj))),
((aG $x  hr rfl (af $y  aj) (ah az))),
((au $x  (ae $y) (aF $y))),
((ak $x  (ag $y  ar))),
((ak $x  (bI $y))),
((aG $x  hr rfl $y  .L)),
((bA (gh hr.units) $x  $y  (bw _))),
((ag (ae $x) (bI $y))),
(bq 1 [] (aX $x) (ai 0) (dB $y) (ae 0)),
(((bd.drop $x).take $y)),
(((backTo p3 $x).all (fun x=>!x.1)&&(backToKw p3 (keywordEach [] X.env)).all (fun x=>x.1.isSome)&&decide $y)),
(gF [(v,false),(j,false), $x,(b,false),(h,false), $y,(i,false)] (ae 0)),
(call_meets F.slot_str_split (typeIs_str _ _ _) F.entry_str_split (F.args_str_split_2 _ _) $x  $y ),
((.f (.a $x) $y)),
((.i (bR (N':=["part"]) (no:=1) (cap:=[]) rfl rfl .bG rfl .bF (cg (.a 0)) $x  $y  .aU))),
((bA (qL hr.units) $x  $y  (bw _))),
(dH pg w .m mg base 1 $x  "wants" 1 $y ),
((au cL (aF $x) (ae $y))),
((aY pU rfl q6 rfl (.v $x  (wW rfl $y  rfl)))),
((dA (du $x) $y  bY)),
((aL $x  (.a $y) ao)),
((uU $x  $y  (.e (ae $y) (.c dU $x  $y)))),
(cv [(v,d),(j,q),(c,l),(b,m),(h,n),(g,o)] "tells" (ae $x) (bI $y)),
((bA pe $x  (eM rfl $y) (bw _))),
(aK $x  $x  (ax $y)),
((.ai (di (lB $x  rfl q6 rfl $y  (.a 0))))),
((au aT $x  $y)),
((aG $x  hr rfl $y  (ah .L))),
((aO aP (.a $x) $y  .x)),
((aG $x  hr rfl (.aj $y) (ah az))),
((upd (upd $x  dx (.own $y)) $y  (.ins C dx []))),
((bq 1 [] $x  (ai 0) aI $y)),
(.tup [.int $x,.int $y ]),
((some (.Name $x  $y))),
((ak $x  (.c 0 $y))),
((.Subscript $x  $y  pos)),
((af (bR rfl rfl .bG rfl .bF (cg (.a 2)) $x  $y  .aU) aj)),
((dQ $x  (.M $y) bO)),
((aL eR (.h $x) (.a $y))),
(dH pg w .m mg base 1 $x  "tells" 2 $y ),
((.int $x  $y)),
((cv Mz "tells" (ae $x) (bI $y))),
((aZ $x  (aZ $y  cY))),
((upd H $x  $y)),
((eS rfl (.ai $x  $y) .b9)),
((aL bg $x  $y)),
((uw rfl gP.nd rfl rfl .f rfl rfl (.f $x  $y) rfl)),
((wpAny_bind $x :wpAny _ _ $y  _ _ _)),
((.Q (au aT $x  (fC (.str "/"))) $y)),
((aw (cZ $x  (pv $x) $y))),
((bq 2 [] (aX $x) .bU aI $y)),
((aG j hr rfl (.v $x  $y) .L))])
 return a.raw[1][2*i][1]
local macro_rules|`(.$c:ident $x $y $z)=>do
 let some i:="a c e f h i".splitOn.idxOf? c.getId.toString|Lean.Macro.throwUnsupported
 let a<-`([((au $x  (ae $y) (aF $z))),
((au $x  (ae $y) (ae $z))),
((au $x  (ae $y) (fC $z))),
(#[some (.c $x),none,some $y,some $z ,some .Y,some .aq]),
((aL $x  (.a $y) (.a $z))),
((au $x  $y  (aF $z)))])
 return a.raw[1][2*i][1]
local macro_rules|`($c:char $x)=>match c.getChar with|'0'=>`(some (.sh $x))|_=>Lean.Macro.throwUnsupported
set_option hygiene true
namespace My
open PySem PySem.Spec PyProof.Rows
noncomputable def tp (i:Nat):Stmt:=PySem.Challenge.pw_echohouse_k26_whole_runs_add_and_go_on.main.body.getD i (.Pass .gP)
noncomputable def hA (s:Stmt):Arguments:=match s with
 | .FunctionDef _ a _ _ _ _ _ _ _ _=>a
 |_=>⟨[],[],none,[],[],none,[]⟩
noncomputable def hB (s:Stmt):List Stmt:=match s with
 | .FunctionDef _ _ b _ _ _ _ _ _ _=>b
 |_=>[]
noncomputable def hS (s:Stmt):Scope:=match s with
 | .FunctionDef _ _ _ _ _ _ sc _ _ _=>sc
 |_=>{ kind:=.function,names:=[],isGenerator:=false,isCoroutine:=false }
noncomputable def tc (i j:Nat):Stmt:=match tp i with
 | .ClassDef _ _ _ body _ _ _ _ _ _ _=>body.getD j (.Pass .gP)
 |_=>.Pass .gP
abbrev pg:Program:=PySem.Challenge.pw_echohouse_k26_whole_runs_add_and_go_on
abbrev lw:PySem.W.OpenLaw:=PySem.Challenge.rw_echohouse_k26_whole_runs_add_and_go_on
noncomputable def qv:Program:={ pg with main:={ pg.main with body:=([1,2,3,4,5,6,7,8,9,11,12,13,14,15,16,17,18,20,21,22,23,24,25,26,27,28,29,30,32,33,34,35,36,37,39,41,42,44,45,46,47,48,49,50,51,52,53,54,55,56,57,58,59,60,61,62,63,64,65,66,68,69,70,71,72,73,74,75,76,77,78,79,80,81,82,83,84,85,86]:List Nat).map tp } }
def cf:Str := "/claim/cut.py"
noncomputable def Tx (nm p:Str)(t l n k:Nat)(a b c d e:Value):Obj:=⟨.type "code", none,.fields #[.str nm t,.str p (t+1),.str cf (t+2),.int l 0,.int n 0,.int 0 0,.int 0 0,.int 3 0,a,.bool true,.int 181 0,b,.none,c,d,e,.int k 0,.int l 0,.str cf (k+1)],#[]⟩
noncomputable def zt (c:Nat)(nm p:Str)(t l n k:Nat):Obj:=Tx nm p t l n k (.c (c-5)) (.c (c-4)) (.c (c-3)) (.c (c-2)) (.c (c-1))
noncomputable def ME (c:Nat)(nm p:Str)(t l n k:Nat):Obj:=Tx nm p t l n k (.c (c-3)) (.c (c-2)) .none .none (.c (c-1))
def cA (c:Nat)(nm:Str)(t l n k:Nat):Obj:=zt c nm nm t l n k
def cB (c:Nat)(nm:Str)(t l n k:Nat):Obj:=ME c nm nm t l n k
noncomputable def rJ (s:Stmt)(nm p:Str)(pm:Value)(c:Addr):Obj:=⟨.type "function", none,.func (PySem.W.fnOf nm p (hA s) (hB s) (hS s) .none .none .none pm none (.c c) .none),#[]⟩
def fh (s:Stmt)(nm:Str)(pm:Value)(c:Addr):Obj:=rJ s nm nm pm c
def de (P:Params)(x:Str)(t:Tok)(v:Value):DictEntry:=⟨PyData.keyHash P x,.str x t,v⟩
def kI:Value:=.str "law_echohouse_k26_whole_runs_add_and_go_on" 1113
def nM:Value:=.str "echohouse.wiring" 905
def zx:Value:=.str "echohouse.fracs" 519
def RB:Value:=.str "echohouse.divisors" 434
def TJ:Value:=.str "echohouse.tables" 887
def md5:Value:=.str "echohouse.turns" 895
def nN:Value:=.str "echohouse.parts" 606
noncomputable def d3 (P:Params):List DictEntry:=[de P "__name__" 165 .s,de P "__doc__" 166 .ds,de P "__package__" 167 .ds,de P "__loader__" 168 (.builtin "__main__.__loader__#opaque"),de P "__spec__" 169 .ds,de P "__annotations__" 170 (.c 6),de P "__builtins__" 171 (.c 4),de P "__file__" 173 (.str "/claim/cut.py" 172),de P "__cached__" 174 .ds,de P "EchoError" 213 (.c 31),de P "NoFraction" 236 (.c 51),de P "NoFit" 259 (.c 70),de P "NoTurns" 282 (.c 89),de P "TooMany" 305 (.c 108),de P "NoText" 337 (.c 134),de P "NoPart" 369 (.c 160),de P "Twice" 401 (.c 186),de P "Ring" 433 (.c 212),de P "SHORT" 437 (.ag (4000) 436),de P "SHORT_HALF" 439 (.ag (256) 438),de P "common" 448 (.c 221),de P "half" 460 (.c 228),de P "stepped" 470 (.c 235),de P "step" 485 (.c 242),de P "upper_half" 502 (.c 249),de P "factors_joined" 518 (.c 256),de P "NOUGHT" 523 (.c 257),de P "MOST_FIGURES" 525 (.ag (30) 524),de P "is_whole" 532 (.c 264),de P "is_fraction" 541 (.c 271),de P "plus" 552 (.c 278),de P "minus" 560 (.c 285),de P "times" 570 (.c 292),de P "show_frac" 579 (.c 299),de P "figures" 588 (.c 306),de P "read_frac" 599 (.c 313),de P "is_figures" 605 (.c 318),de P "Part" 649 (.c 349),de P "In" 689 (.c 384),de P "Cell" 738 (.c 424),de P "Gain" 789 (.c 464),de P "Sum" 839 (.c 500),de P "Out" 886 (.c 540),de P "is_row" 894 (.c 547),de P "MOST_TURNS" 898 (.ag (60) 897),de P "refuse_run" 904 (.c 552),de P "LETTERS" 908 (.str "abcdefghijklmnopqrstuvwxyz" 907),de P "LONGEST_NAME" 910 (.ag (8) 909),de P "MOST_TERMS" 912 (.ag (4) 911),de P "GREATEST_TOP" 914 (.ag (99) 913),de P "GREATEST_BOTTOM" 916 (.ag (12) 915),de P "MOST_ROWS" 918 (.ag (24) 917),de P "MOST_CELLS" 920 (.ag (4) 919),de P "MOST_LINES" 922 (.ag (2) 921),de P "Wiring" 1006 .hL,de P "read_parts" 1017 (.c 626),de P "read_part" 1026 (.c 633),de P "read_gain" 1036 (.c 640),de P "read_factor" 1044 (.c 647),de P "read_sum" 1050 (.c 652),de P "are_names" 1056 (.c 657),de P "is_name" 1062 (.c 662),de P "refuse_names" 1072 (.c 669),de P "refuse_counts" 1078 (.c 674),de P "in_order" 1084 (.c 679),de P "free_names" 1090 (.c 684),de P "least_ring" 1100 (.c 691),de P "ring_from" 1106 (.c 696),de P "steps_back" 1112 (.c 701),de P "_law_cell" 1122 (.c 708),de P "_law_digits" 1133 (.c 715),de P "_law_mixed" 1144 (.c 722),de P "_law_drawn" 1150 (.c 727),de P "_law_names" 1156 (.c 732),de P "_law_frac" 1166 (.c 739),de P "_law_inner" 1177 (.c 746),de P "_law_parts" 1183 (.c 751),de P "_law_laid" 1189 (.c 756),de P "_law_frac_text" 1196 (.c 763),de P "_law_row" 1202 (.c 768),de P "_law_text" 1208 (.c 773),de P "_law_value" 1216 (.c 780),de P "_law_summed" 1226 (.c 787),de P "_law_rows_summed" 1232 (.c 792),de P "_law_kind" 1239 (.c 799),de P "_law_other_order" 1245 (.c 804),de P "_law_drawn_row" 1251 (.c 809),de P "law" 1257 (.c 814)]
noncomputable def kk (P:Params):PySem.W.Frag:=[
(3,⟨.fi, none,.dict (d3 P).toArray 88,#[]⟩),
(30,⟨.fi, none,.dict #[de P "__module__" 196 .r,de P "__firstlineno__" 200 (.ag (2) 199),de P "word" 207 (.c 28),de P "__static_attributes__" 208 (.c 29),de P "__weakref__" 210 (.c 32),de P "__doc__" 211 .ds] 3,#[]⟩),
(31,⟨.ew, none,.cls ⟨.fV, .ga,.a7,30,.fV, true,[],[.ref 51,.ref 70,.ref 89,.ref 108,.ref 134,.ref 160,.ref 186,.ref 212],false,none,false⟩,.Z⟩),
(50,⟨.fi, none,.dict #[de P "__module__" 221 .r,de P "__firstlineno__" 225 (.ag (6) 224),de P "word" 232 (.c 48),de P "__static_attributes__" 233 (.c 49),de P "__doc__" 234 .ds] 2,#[]⟩),
(51,⟨.ew, none,.cls ⟨"NoFraction", [.ref 31],[.ref 51,.ref 31,.bc, .bp, .aL, .ak],50,"NoFraction", true,[],[],false,none,false⟩,#[some (.c 35),none,some (.str "NoFraction" 214),some (.str "NoFraction" 222),some .ae,some .aq]⟩),
(220,cA 220 "common" 440 53 2 446),
(221,fh (tp 13) "common" RB 220),
(227,cA 227 "half" 449 62 2 458),
(228,fh (tp 14) "half" RB 227),
(257,.dF),
(263,cA 263 "is_whole" 526 99 1 530),
(264,fh (tp 22) "is_whole" zx 263),
(270,cA 270 "is_fraction" 533 101 1 539),
(271,fh (tp 23) "is_fraction" zx 270),
(277,cA 277 "plus" 542 106 2 550),
(278,fh (tp 24) "plus" zx 277),
(284,cA 284 "minus" 553 111 2 558),
(285,fh (tp 25) "minus" zx 284),
(291,cA 291 "times" 561 113 2 568),
(292,fh (tp 26) "times" zx 291),
(298,cA 298 "show_frac" 571 117 1 577),
(299,fh (tp 27) "show_frac" zx 298),
(305,cA 305 "figures" 580 123 1 586),
(306,fh (tp 28) "figures" zx 305),
(312,cA 312 "read_frac" 589 130 1 597),
(313,fh (tp 29) "read_frac" zx 312),
(317,cB 317 "is_figures" 600 142 1 603),
(318,fh (tp 30) "is_figures" zx 317),
(338,zt 338 "wants" "Part.wants" 627 150 1 631),
(339,rJ (tc 32 1) "wants" "Part.wants" nN 338),
(345,zt 345 "tells" "Part.tells" 634 153 2 639),
(346,rJ (tc 32 2) "tells" "Part.tells" nN 345),
(348,⟨.fi, none,.dict #[de P "__module__" 615 .q,de P "__firstlineno__" 619 (.ag (145) 618),de P "row" 626 (.c 332),de P "wants" 633 (.c 339),de P "tells" 641 (.c 346),de P "__static_attributes__" 642 (.c 347),de P "__dict__" 644 (.c 350),de P "__weakref__" 646 (.c 351),de P "__doc__" 647 .ds] 4,#[]⟩),
(349,(.x ⟨"Part", .fo,[.f6,.ak],348,"Part", true,[],[.ref 384,.ref 424,.ref 464,.ref 500,.ref 540],false,none,false⟩)),
(366,zt 366 "__init__" "In.__init__" 662 157 2 667),
(367,rJ (tc 33 0) "__init__" "In.__init__" nN 366),
(380,zt 380 "tells" "In.tells" 677 163 2 682),
(381,rJ (tc 33 2) "tells" "In.tells" nN 380),
(383,⟨.fi, none,.dict #[de P "__module__" 657 .q,de P "__firstlineno__" 661 (.ag (155) 660),de P "__init__" 669 (.c 367),de P "row" 676 (.c 374),de P "tells" 684 (.c 381),de P "__static_attributes__" 686 (.c 382),de P "__doc__" 687 .ds] 2,#[]⟩),
(384,⟨.ew, none,.cls ⟨"In", .gI,[.ref 384,.f6,.ak],383,"In", true,[],[],false,none,false⟩,.f 354 (.str "In" 650) (.str "In" 658)⟩),
(399,zt 399 "__init__" "Cell.__init__" 702 167 3 708),
(400,rJ (tc 34 0) "__init__" "Cell.__init__" nN 399),
(413,zt 413 "wants" "Cell.wants" 718 174 1 722),
(414,rJ (tc 34 2) "wants" "Cell.wants" nN 413),
(420,zt 420 "tells" "Cell.tells" 725 177 2 730),
(421,rJ (tc 34 3) "tells" "Cell.tells" nN 420),
(423,⟨.fi, none,.dict #[de P "__module__" 697 .q,de P "__firstlineno__" 701 (.ag (165) 700),de P "__init__" 710 (.c 400),de P "row" 717 (.c 407),de P "wants" 724 (.c 414),de P "tells" 732 (.c 421),de P "__static_attributes__" 735 (.c 422),de P "__doc__" 736 .ds] 2,#[]⟩),
(424,⟨.ew, none,.cls ⟨"Cell", .gI,[.ref 424,.f6,.ak],423,"Cell", true,[],[],false,none,false⟩,.f 387 (.str "Cell" 690) (.str "Cell" 698)⟩),
(439,zt 439 "__init__" "Gain.__init__" 751 181 4 758),
(440,rJ (tc 35 0) "__init__" "Gain.__init__" nN 439),
(453,zt 453 "wants" "Gain.wants" 768 189 1 772),
(454,rJ (tc 35 2) "wants" "Gain.wants" nN 453),
(460,zt 460 "tells" "Gain.tells" 775 192 2 780),
(461,rJ (tc 35 3) "tells" "Gain.tells" nN 460),
(463,⟨.fi, none,.dict #[de P "__module__" 746 .q,de P "__firstlineno__" 750 (.ag (179) 749),de P "__init__" 760 (.c 440),de P "row" 767 (.c 447),de P "wants" 774 (.c 454),de P "tells" 782 (.c 461),de P "__static_attributes__" 786 (.c 462),de P "__doc__" 787 .ds] 2,#[]⟩),
(464,⟨.ew, none,.cls ⟨"Gain", .gI,[.ref 464,.f6,.ak],463,"Gain", true,[],[],false,none,false⟩,.f 427 (.str "Gain" 739) (.str "Gain" 747)⟩),
(479,zt 479 "__init__" "Sum.__init__" 802 196 3 808),
(480,rJ (tc 36 0) "__init__" "Sum.__init__" nN 479),
(489,ME 489 "wants" "Sum.wants" 817 203 1 820),
(490,rJ (tc 36 2) "wants" "Sum.wants" nN 489),
(496,zt 496 "tells" "Sum.tells" 823 206 2 831),
(497,rJ (tc 36 3) "tells" "Sum.tells" nN 496),
(499,⟨.fi, none,.dict #[de P "__module__" 797 .q,de P "__firstlineno__" 801 (.ag (194) 800),de P "__init__" 810 (.c 480),de P "row" 816 (.c 485),de P "wants" 822 (.c 490),de P "tells" 833 (.c 497),de P "__static_attributes__" 836 (.c 498),de P "__doc__" 837 .ds] 2,#[]⟩),
(500,⟨.ew, none,.cls ⟨"Sum", .gI,[.ref 500,.f6,.ak],499,"Sum", true,[],[],false,none,false⟩,.f 467 (.str "Sum" 790) (.str "Sum" 798)⟩),
(515,zt 515 "__init__" "Out.__init__" 852 213 2 857),
(516,rJ (tc 37 0) "__init__" "Out.__init__" nN 515),
(529,zt 529 "wants" "Out.wants" 867 219 1 871),
(530,rJ (tc 37 2) "wants" "Out.wants" nN 529),
(536,zt 536 "tells" "Out.tells" 874 222 2 879),
(537,rJ (tc 37 3) "tells" "Out.tells" nN 536),
(539,⟨.fi, none,.dict #[de P "__module__" 847 .q,de P "__firstlineno__" 851 (.ag (211) 850),de P "__init__" 859 (.c 516),de P "row" 866 (.c 523),de P "wants" 873 (.c 530),de P "tells" 881 (.c 537),de P "__static_attributes__" 883 (.c 538),de P "__doc__" 884 .ds] 2,#[]⟩),
(540,⟨.ew, none,.cls ⟨"Out", .gI,[.ref 540,.f6,.ak],539,"Out", true,[],[],false,none,false⟩,.f 503 (.str "Out" 840) (.str "Out" 848)⟩),
(546,cB 546 "is_row" 889 225 2 892),
(547,fh (tp 39) "is_row" TJ 546),
(551,cB 551 "refuse_run" 899 229 4 902),
(552,fh (tp 42) "refuse_run" md5 551),
(563,ME 563 "__init__" "Wiring.__init__" 935 247 2 938),
(564,rJ (tc 52 0) "__init__" "Wiring.__init__" nM 563),
(584,zt 584 "ins" "Wiring.ins" 955 264 1 959),
(585,rJ (tc 52 3) "ins" "Wiring.ins" nM 584),
(596,ME 596 "cell_names" "Wiring.cell_names" 969 270 1 972),
(597,rJ (tc 52 5) "cell_names" "Wiring.cell_names" nM 596),
(606,ME 606 "run" "Wiring.run" 981 276 3 984),
(607,rJ (tc 52 7) "run" "Wiring.run" nM 606),
(611,ME 611 "values_at" "Wiring.values_at" 987 286 3 990),
(612,rJ (tc 52 8) "values_at" "Wiring.values_at" nM 611),
(614,⟨.fi, none,.dict #[de P "__module__" 930 .B,de P "__firstlineno__" 934 (.ag (245) 933),de P "__init__" 940 (.c 564),de P "text" 947 (.c 571),de P "parts" 954 (.c 578),de P "ins" 961 (.c 585),de P "outs" 968 (.c 592),de P "cell_names" 974 (.c 597),de P "order" 980 (.c 602),de P "run" 986 (.c 607),de P "values_at" 992 (.c 612),de P "__static_attributes__" 999 (.c 613),de P "__dict__" 1001 (.c 616),de P "__weakref__" 1003 (.c 617),de P "__doc__" 1004 .ds] 4,#[]⟩),
(615,⟨.ew, none,.cls ⟨"Wiring", .fo,[.ref 615,.ak],614,"Wiring", true,[],[],false,none,false⟩,#[none,none,some (.str "Wiring" 923),some (.str "Wiring" 931),some .Y,some .aq]⟩),
(625,cA 625 "read_parts" 1007 293 1 1015),
(626,fh (tp 53) "read_parts" nM 625),
(632,cA 632 "read_part" 1018 301 1 1024),
(633,fh (tp 54) "read_part" nM 632),
(639,cA 639 "read_gain" 1027 314 3 1034),
(640,fh (tp 55) "read_gain" nM 639),
(646,cA 646 "read_factor" 1037 317 1 1042),
(647,fh (tp 56) "read_factor" nM 646),
(651,cB 651 "read_sum" 1045 323 2 1048),
(652,fh (tp 57) "read_sum" nM 651),
(656,cB 656 "are_names" 1051 326 2 1054),
(657,fh (tp 58) "are_names" nM 656),
(661,cB 661 "is_name" 1057 328 1 1060),
(662,fh (tp 59) "is_name" nM 661),
(668,cA 668 "refuse_names" 1063 330 1 1070),
(669,fh (tp 60) "refuse_names" nM 668),
(673,cB 673 "refuse_counts" 1073 341 1 1076),
(674,fh (tp 61) "refuse_counts" nM 673),
(678,cB 678 "in_order" 1079 349 1 1082),
(679,fh (tp 62) "in_order" nM 678),
(683,cB 683 "free_names" 1085 360 2 1088),
(684,fh (tp 63) "free_names" nM 683),
(707,cA 707 "_law_cell" 1115 384 2 1120),
(708,fh (tp 68) "_law_cell" kI 707),
(714,cA 714 "_law_digits" 1123 388 2 1131),
(715,fh (tp 69) "_law_digits" kI 714),
(721,cA 721 "_law_mixed" 1134 395 2 1142),
(722,fh (tp 70) "_law_mixed" kI 721),
(726,cB 726 "_law_drawn" 1145 402 2 1148),
(727,fh (tp 71) "_law_drawn" kI 726),
(731,cB 731 "_law_names" 1151 406 2 1154),
(732,fh (tp 72) "_law_names" kI 731),
(738,cA 738 "_law_frac" 1157 416 2 1164),
(739,fh (tp 73) "_law_frac" kI 738),
(745,cA 745 "_law_inner" 1167 421 3 1175),
(746,fh (tp 74) "_law_inner" kI 745),
(750,cB 750 "_law_parts" 1178 428 1 1181),
(751,fh (tp 75) "_law_parts" kI 750),
(755,cB 755 "_law_laid" 1184 444 2 1187),
(756,fh (tp 76) "_law_laid" kI 755),
(762,cA 762 "_law_frac_text" 1190 449 1 1194),
(763,fh (tp 77) "_law_frac_text" kI 762),
(767,cB 767 "_law_row" 1197 453 1 1200),
(768,fh (tp 78) "_law_row" kI 767),
(772,cB 772 "_law_text" 1203 459 1 1206),
(773,fh (tp 79) "_law_text" kI 772),
(779,cA 779 "_law_value" 1209 461 1 1214),
(780,fh (tp 80) "_law_value" kI 779),
(786,cA 786 "_law_summed" 1217 464 3 1224),
(787,fh (tp 81) "_law_summed" kI 786),
(791,cB 791 "_law_rows_summed" 1227 467 3 1230),
(792,fh (tp 82) "_law_rows_summed" kI 791),
(798,cA 798 "_law_kind" 1233 472 1 1237),
(799,fh (tp 83) "_law_kind" kI 798),
(803,cB 803 "_law_other_order" 1240 474 1 1243),
(804,fh (tp 84) "_law_other_order" kI 803),
(808,cB 808 "_law_drawn_row" 1246 478 3 1249),
(809,fh (tp 85) "_law_drawn_row" kI 808),
(813,cB 813 "law" 1252 480 1 1255),
(814,fh (tp 86) "law" kI 813)]
noncomputable def ka:List Addr:=[3,30,31,50,51,220,221,227,228,257,263,264,270,271,277,278,284,285,291,292,298,299,305,306,312,313,317,318,338,339,345,346,348,349,366,367,380,381,383,384,399,400,413,414,420,421,423,424,439,440,453,454,460,461,463,464,479,480,489,490,496,497,499,500,515,516,529,530,536,537,539,540,546,547,551,552,563,564,584,585,596,597,606,607,611,612,614,615,625,626,632,633,639,640,646,647,651,652,656,657,661,662,668,669,673,674,678,679,683,684,707,708,714,715,721,722,726,727,731,732,738,739,745,746,750,751,755,756,762,763,767,768,772,773,779,780,786,787,791,792,798,799,803,804,808,809,813,814]
theorem Ui (P:Params):ka=(kk P).map (·.1):=.a
abbrev hk:PySem.W.Hook:=PySem.W.kHook kk ka Ui
noncomputable abbrev xt (s:Shared):Bool:=PySem.W.xlAt qv [] s&&PySem.W.recOk (PySem.W.RowW.records lw.row.toRowW) s
open PySem.W PySem.Calls in
noncomputable def pI (tb:.hG)(p:.ah)(w:World)(b:Nat)(a:.dC):Nat->SharedT->Thread->Option SharedT
 |0,_,_=>none
 |n+1,s,t=>match through t with
  |true=>some s
  |false=>match stepOk b a t with
   |false=>none
   |true=>match stepT (denote tb) p w s t with
    |some (s',t')=>pI tb p w b a n s' t'
    |none=>none
open PySem.W PySem.Calls in
theorem w8 {tb:.hG}{p:.ah}{w:World}{b:Nat}{a:.dC}:∀{n:Nat} {s:SharedT} {t:Thread} {r:SharedT},pI tb p w b a n s t=some r->topRun tb p w b a n s.abs t=some r.abs
 |0,_,_,_,e=>by simp [pI] at e
 |n+1,s,t,r,e=>by
  rw [pI] at e
  rw [topRun]
  cases h1:through t with
  |true=>rw [h1] at e;cases e;rfl
  |false =>
   rw [h1] at e
   cases h2:stepOk b a t with
   |false=>rw [h2] at e;cases e
   |true =>
    rw [h2] at e
    cases W:stepT _ p w s t with
    |none=>rw [W] at e;cases e
    |some x =>
     rw [W] at e
     rw [stepT_spec W]
     exact w8 e
open PySem.W PySem.Calls in
noncomputable def Ro (tb:.hG)(p:.ah)(w:World)(b:Nat)(a:.dC):Nat->SharedT->Thread->Option (SharedT×Thread)
 |0,s,t=>some (s,t)
 |n+1,s,t=>match through t with
  |true=>none
  |false=>match stepOk b a t with
   |false=>none
   |true=>match stepT (denote tb) p w s t with
    |some (s',t')=>Ro tb p w b a n s' t'
    |none=>none
open PySem.W PySem.Calls in
theorem Hs {tb:.hG}{p:.ah}{w:World}{b:Nat}{a:.dC}:∀{n:Nat} {s s':SharedT} {t t':Thread},Ro tb p w b a n s t=some (s',t')->topGo tb p w b a n s.abs t=some (s'.abs,t')
 |0,_,_,_,_,e=>by cases e;rfl
 |n+1,s,s',t,t',e=>by
  rw [Ro] at e
  rw [topGo]
  cases h1:through t with
  |true=>rw [h1] at e;cases e
  |false =>
   rw [h1] at e
   cases h2:stepOk b a t with
   |false=>rw [h2] at e;cases e
   |true =>
    rw [h2] at e
    cases W:stepT _ p w s t with
    |none=>rw [W] at e;cases e
    |some x =>
     rw [W] at e
     rw [stepT_spec W]
     exact Hs e
noncomputable def alts {α:Type}:Bool->List α->List α
 |_,[]=>[]
 |true,a::l=>a::alts false l
 |false,_::l=>alts true l
noncomputable def CN:Nat->List Obj->PySem.W.BT
 |0,_=>.nil
 |_+1,[]=>.nil
 |n+1,o::l=>.node o (CN n (alts true l)) (CN n (alts false l))
def bol (P:Params):List Obj:=(PySem.W.boot_heap P).objs.toList
open PySem.W PySem.Calls in
theorem P4 {p q:.ah}{loose:.V}{Xt:Shared->Bool}{α:Type}{a:Shared->α}{b:World->α}{N n k M:Nat}{B:Bool}{T:Params->BT}(he:opening p=plainProg p.main.scope.names)(J:Nat.ble 600 N=true)(hf:∀s,fenceModules? p s=some s)
  (hz:∀w:World,((boot_heap w.params).isNs mainGlobals&&(Array.mk []:Array GenState).size == 0,(boot_heap w.params).objs.size,(boot_heap w.params).nsMap mainGlobals "__annotations__")=(true,11,some (.c 6)))
  (hr:∀(w:World) (os:OsState),topRun treeTable p w 11 (.U 6) M ⟨boot_heap w.params,Array.mk [],boot_drawn,boot_toks,os⟩ (topStub p)=some .a1) (le:Nat.ble M N=true)
  (j:∀w:World,(fun os:OsState=>staticsOk (importedModules p.main.body) (boot_heap w.params) (absHeap (T w.params) n {})&&namesBound p (absHeap (T w.params) n {})&&gensDone .a1&&laidKept (boot_heap w.params) (absHeap (T w.params) n {}))=fun _=>true)
  (m:∀w:World,(fun os:OsState=>(openSeen q loose (importedModules p.main.body) Xt B .a1).1)=fun _=>(openGood q loose).1)
  (C:∀w:World,(fun os:OsState=>(openSeen q loose (importedModules p.main.body) Xt B .a1).2)=fun _=>(openGood q loose).2)
  (r:∀w:World,(fun os:OsState=>a .a1)=fun _=>b w):
  LeftO p q loose Xt a b N B:=
 LeftO.of_pieces (H₁:=fun P=>absHeap (T P) n {}) (fun w=>boot_open he J hf w) hz hr le fun w=>by
  funext os
  exact Prod.ext (congrFun (j w) os) (Prod.ext (Prod.ext (congrFun (m w) os) (congrFun (C w) os)) (congrFun (r w) os))
noncomputable def TB (s:Stmt)(nm p:Str):Obj:=⟨.none,none,.func ⟨nm,p,hA s,.stmts (hB s),hS s,0,[],.none,.none,.none,.none,none,.none,.none,0⟩,#[]⟩
def oT (vs:.S):Obj:=⟨.aM, none,.seq vs.toArray 0,#[]⟩
def oF:Obj:=⟨.none,none,.fields #[],#[]⟩
def RK:Nat->List Str->List Value
 |_,[]=>[]
 |t,x::l=>.str x t::RK (t+1) l
noncomputable def gA (a:Nat)(s:Stmt)(nm p:Str)(t l n:Nat)(vs:.V)(pm:Value):List Obj:=[oT [],oF,oT (RK (t+3) vs),oT [],TB s nm p,zt (a+5) nm p t l n (t+3+vs.length),rJ s nm p pm (a+5)]
noncomputable def gB (a:Nat)(s:Stmt)(nm p:Str)(t l n:Nat)(pm:Value):List Obj:=[oT [],oF,TB s nm p,ME (a+3) nm p t l n (t+3),rJ s nm p pm (a+3)]
noncomputable def RL:List (Nat×Nat×Nat):=[(2,0,20),(6,0,40),(10,0,59),(14,0,78),(18,0,97),(22,0,116),(29,0,142),(36,0,168),(43,0,194),(53,0,220),(62,0,227),(73,0,234),(78,0,241),(82,0,248),(92,0,255),(99,0,263),(101,0,270),(106,0,277),(111,0,284),(113,0,291),(117,0,298),(123,0,305),(130,0,312),(142,0,317),(145,0,324),(155,0,359),(165,0,392),(179,0,432),(194,0,472),(211,0,508),(225,0,546),(229,0,551),(245,0,558),(293,0,625),(301,0,632),(314,0,639),(317,0,646),(323,0,651),(326,0,656),(328,0,661),(330,0,668),(341,0,673),(349,0,678),(360,0,683),(362,0,690),(369,0,695),(377,0,700),(384,0,707),(388,0,714),(395,0,721),(402,0,726),(406,0,731),(416,0,738),(421,0,745),(428,0,750),(444,0,755),(449,0,762),(453,0,767),(459,0,772),(461,0,779),(464,0,786),(467,0,791),(472,0,798),(474,0,803),(478,0,808),(480,0,813)]
noncomputable def Cq (k:Nat):Obj:=⟨.none,none,.fields ((RL.take k).flatMap fun z=>[.int z.1 0,.int z.2.1 0,.ref z.2.2]).toArray,#[]⟩
noncomputable def o3 (P:Params)(e n:Nat)(v:Value):Obj:=⟨.type "dict", none,.dict (match d3 P with | []=>[] | z::l=>((⟨z.hash,z.key,v⟩:DictEntry)::l).take e).toArray n,#[]⟩
noncomputable def ob (P:Params):List Obj:=bol P++([.ar,
⟨.none,none,.fields #[.int (2) 0,.int (0) 0,.ref 20,.int (6) 0,.int (0) 0,.ref 40,.int (10) 0,.int (0) 0,.ref 59,.int (14) 0,.int (0) 0,.ref 78,.int (18) 0,.int (0) 0,.ref 97,.int (22) 0,.int (0) 0,.ref 116,.int (29) 0,.int (0) 0,.ref 142,.int (36) 0,.int (0) 0,.ref 168,.int (43) 0,.int (0) 0,.ref 194,.int (53) 0,.int (0) 0,.ref 220,.int (62) 0,.int (0) 0,.ref 227,.int (73) 0,.int (0) 0,.ref 234,.int (78) 0,.int (0) 0,.ref 241,.int (82) 0,.int (0) 0,.ref 248,.int (92) 0,.int (0) 0,.ref 255,.int (99) 0,.int (0) 0,.ref 263,.int (101) 0,.int (0) 0,.ref 270,.int (106) 0,.int (0) 0,.ref 277,.int (111) 0,.int (0) 0,.ref 284,.int (113) 0,.int (0) 0,.ref 291,.int (117) 0,.int (0) 0,.ref 298,.int (123) 0,.int (0) 0,.ref 305,.int (130) 0,.int (0) 0,.ref 312,.int (142) 0,.int (0) 0,.ref 317,.int (145) 0,.int (0) 0,.ref 324,.int (155) 0,.int (0) 0,.ref 359,.int (165) 0,.int (0) 0,.ref 392,.int (179) 0,.int (0) 0,.ref 432,.int (194) 0,.int (0) 0,.ref 472,.int (211) 0,.int (0) 0,.ref 508,.int (225) 0,.int (0) 0,.ref 546,.int (229) 0,.int (0) 0,.ref 551,.int (245) 0,.int (0) 0,.ref 558,.int (293) 0,.int (0) 0,.ref 625,.int (301) 0,.int (0) 0,.ref 632,.int (314) 0,.int (0) 0,.ref 639,.int (317) 0,.int (0) 0,.ref 646,.int (323) 0,.int (0) 0,.ref 651,.int (326) 0,.int (0) 0,.ref 656,.int (328) 0,.int (0) 0,.ref 661,.int (330) 0,.int (0) 0,.ref 668,.int (341) 0,.int (0) 0,.ref 673,.int (349) 0,.int (0) 0,.ref 678,.int (360) 0,.int (0) 0,.ref 683,.int (362) 0,.int (0) 0,.ref 690,.int (369) 0,.int (0) 0,.ref 695,.int (377) 0,.int (0) 0,.ref 700,.int (384) 0,.int (0) 0,.ref 707,.int (388) 0,.int (0) 0,.ref 714,.int (395) 0,.int (0) 0,.ref 721,.int (402) 0,.int (0) 0,.ref 726,.int (406) 0,.int (0) 0,.ref 731,.int (416) 0,.int (0) 0,.ref 738,.int (421) 0,.int (0) 0,.ref 745,.int (428) 0,.int (0) 0,.ref 750,.int (444) 0,.int (0) 0,.ref 755,.int (449) 0,.int (0) 0,.ref 762,.int (453) 0,.int (0) 0,.ref 767,.int (459) 0,.int (0) 0,.ref 772,.int (461) 0,.int (0) 0,.ref 779,.int (464) 0,.int (0) 0,.ref 786,.int (467) 0,.int (0) 0,.ref 791,.int (472) 0,.int (0) 0,.ref 798,.int (474) 0,.int (0) 0,.ref 803,.int (478) 0,.int (0) 0,.ref 808,.int (480) 0,.int (0) 0,.ref 813],#[]⟩,
⟨.type "code", none,.fields #[.str "<module>" 182,.str "<module>" 183,.str "/claim/cut.py" 184,.int (1) 0,.int (0) 0,.int (0) 0,.int (0) 0,.int (0) 0,.ref 11,.bool false,.int (181) 0,.ref 12,.none,.none,.none,.none,.int (185) 0,.int (1) 0,.str "/claim/cut.py" 186],#[]⟩,
⟨.type "frame", none,.plain,#[some (.c 13),some (.c 3),some (.c 3),none,some (.str "__main__" 164),none,some (.c 0)]⟩,
⟨.type "tuple", none,.seq #[.type "ValueError"] 0,#[]⟩,
⟨.type "builtin_function_or_method", none,.fields #[.builtin "type.__prepare__", .type "type"],#[]⟩,
⟨.type "dict", none,.dict #[de P "__module__" 196 .r,de P "__qualname__" 198 (.str "EchoError" 197),de P "__firstlineno__" 200 (.ag (2) 199),de P "word" 207 (.c 28),de P "__static_attributes__" 208 (.c 29)] 5,#[]⟩,
⟨.type "tuple", none,.seq #[] 0,#[]⟩,
⟨.none,none,.fields #[.int (4) 0,.int (4) 0,.ref 27],#[]⟩,
⟨.type "code", none,.fields #[.str "EchoError" 191,.str "EchoError" 192,.str "/claim/cut.py" 193,.int (2) 0,.int (0) 0,.int (0) 0,.int (0) 0,.int (0) 0,.ref 18,.bool false,.int (181) 0,.ref 19,.none,.none,.none,.none,.int (194) 0,.int (2) 0,.str "/claim/cut.py" 195],#[]⟩,
⟨.type "frame", none,.plain,#[some (.c 20),some (.c 3),some (.c 17),none,some .r,none,some (.c 0)]⟩] ++
 (gA 22 (tc 1 0) "word" "EchoError.word" 201 4 1 .aT .r ++
 ([.ar,
⟨.type "dict", none,.dict #[de P "__module__" 196 .r,de P "__firstlineno__" 200 (.ag (2) 199),de P "word" 207 (.c 28),de P "__static_attributes__" 208 (.c 29),de P "__weakref__" 210 (.c 32),de P "__doc__" 211 .ds] 3,#[]⟩,
⟨.type "type", none,.cls ⟨.fV, .ga,.a7,30,.fV, true,[],[.ref 51,.ref 70,.ref 89,.ref 108,.ref 134,.ref 160,.ref 186,.ref 212],false,none,false⟩,#[some (.c 15),none,some (.str "EchoError" 189),some (.str "EchoError" 197),some .ae,some .aq]⟩,
⟨.type "getset_descriptor", none,.fields #[.str "__weakref__" 209,.ref 31,.builtin "ExceptionGroup.__weakref__", .none],#[]⟩,
⟨.type "super", none,.fields #[.ref 31,.ref 31,.ref 31],#[]⟩,
⟨.type "builtin_function_or_method", none,.fields #[.builtin "object.__init_subclass__", .ref 31],#[]⟩,
⟨.type "tuple", none,.seq #[.ref 31] 0,#[]⟩,
⟨.type "builtin_function_or_method", none,.fields #[.builtin "type.__prepare__", .type "type"],#[]⟩,
⟨.type "dict", none,.dict #[de P "__module__" 221 .r,de P "__qualname__" 223 (.str "NoFraction" 222),de P "__firstlineno__" 225 (.ag (6) 224),de P "word" 232 (.c 48),de P "__static_attributes__" 233 (.c 49)] 5,#[]⟩,
⟨.type "tuple", none,.seq #[] 0,#[]⟩,
⟨.none,none,.fields #[.int (8) 0,.int (4) 0,.ref 47],#[]⟩,
⟨.type "code", none,.fields #[.str "NoFraction" 216,.str "NoFraction" 217,.str "/claim/cut.py" 218,.int (6) 0,.int (0) 0,.int (0) 0,.int (0) 0,.int (0) 0,.ref 38,.bool false,.int (181) 0,.ref 39,.none,.none,.none,.none,.int (219) 0,.int (6) 0,.str "/claim/cut.py" 220],#[]⟩,
⟨.type "frame", none,.plain,#[some (.c 40),some (.c 3),some (.c 37),none,some .r,none,some (.c 0)]⟩] ++
 (gA 42 (tc 2 0) "word" "NoFraction.word" 226 8 1 .aT .r ++
 ([.ar,
⟨.type "dict", none,.dict #[de P "__module__" 221 .r,de P "__firstlineno__" 225 (.ag (6) 224),de P "word" 232 (.c 48),de P "__static_attributes__" 233 (.c 49),de P "__doc__" 234 .ds] 2,#[]⟩,
⟨.type "type", none,.cls ⟨"NoFraction", [.ref 31],[.ref 51,.ref 31,.bc, .bp, .aL, .ak],50,"NoFraction", true,[],[],false,none,false⟩,#[some (.c 35),none,some (.str "NoFraction" 214),some (.str "NoFraction" 222),some .ae,some .aq]⟩,
⟨.type "super", none,.fields #[.ref 51,.ref 51,.ref 51],#[]⟩,
⟨.type "builtin_function_or_method", none,.fields #[.builtin "object.__init_subclass__", .ref 51],#[]⟩,
⟨.type "tuple", none,.seq #[.ref 31] 0,#[]⟩,
⟨.type "builtin_function_or_method", none,.fields #[.builtin "type.__prepare__", .type "type"],#[]⟩,
⟨.type "dict", none,.dict #[de P "__module__" 244 .r,de P "__qualname__" 246 (.str "NoFit" 245),de P "__firstlineno__" 248 (.ag (10) 247),de P "word" 255 (.c 67),de P "__static_attributes__" 256 (.c 68)] 5,#[]⟩,
⟨.type "tuple", none,.seq #[] 0,#[]⟩,
⟨.none,none,.fields #[.int (12) 0,.int (4) 0,.ref 66],#[]⟩,
⟨.type "code", none,.fields #[.str "NoFit" 239,.str "NoFit" 240,.str "/claim/cut.py" 241,.int (10) 0,.int (0) 0,.int (0) 0,.int (0) 0,.int (0) 0,.ref 57,.bool false,.int (181) 0,.ref 58,.none,.none,.none,.none,.int (242) 0,.int (10) 0,.str "/claim/cut.py" 243],#[]⟩,
⟨.type "frame", none,.plain,#[some (.c 59),some (.c 3),some (.c 56),none,some .r,none,some (.c 0)]⟩] ++
 (gA 61 (tc 3 0) "word" "NoFit.word" 249 12 1 .aT .r ++
 ([.ar,
⟨.type "dict", none,.dict #[de P "__module__" 244 .r,de P "__firstlineno__" 248 (.ag (10) 247),de P "word" 255 (.c 67),de P "__static_attributes__" 256 (.c 68),de P "__doc__" 257 .ds] 2,#[]⟩,
⟨.type "type", none,.cls ⟨"NoFit", [.ref 31],[.ref 70,.ref 31,.bc, .bp, .aL, .ak],69,"NoFit", true,[],[],false,none,false⟩,#[some (.c 54),none,some (.str "NoFit" 237),some (.str "NoFit" 245),some .ae,some .aq]⟩,
⟨.type "super", none,.fields #[.ref 70,.ref 70,.ref 70],#[]⟩,
⟨.type "builtin_function_or_method", none,.fields #[.builtin "object.__init_subclass__", .ref 70],#[]⟩,
⟨.type "tuple", none,.seq #[.ref 31] 0,#[]⟩,
⟨.type "builtin_function_or_method", none,.fields #[.builtin "type.__prepare__", .type "type"],#[]⟩,
⟨.type "dict", none,.dict #[de P "__module__" 267 .r,de P "__qualname__" 269 (.str "NoTurns" 268),de P "__firstlineno__" 271 (.ag (14) 270),de P "word" 278 (.c 86),de P "__static_attributes__" 279 (.c 87)] 5,#[]⟩,
⟨.type "tuple", none,.seq #[] 0,#[]⟩,
⟨.none,none,.fields #[.int (16) 0,.int (4) 0,.ref 85],#[]⟩,
⟨.type "code", none,.fields #[.str "NoTurns" 262,.str "NoTurns" 263,.str "/claim/cut.py" 264,.int (14) 0,.int (0) 0,.int (0) 0,.int (0) 0,.int (0) 0,.ref 76,.bool false,.int (181) 0,.ref 77,.none,.none,.none,.none,.int (265) 0,.int (14) 0,.str "/claim/cut.py" 266],#[]⟩,
⟨.type "frame", none,.plain,#[some (.c 78),some (.c 3),some (.c 75),none,some .r,none,some (.c 0)]⟩] ++
 (gA 80 (tc 4 0) "word" "NoTurns.word" 272 16 1 .aT .r ++
 ([.ar,
⟨.type "dict", none,.dict #[de P "__module__" 267 .r,de P "__firstlineno__" 271 (.ag (14) 270),de P "word" 278 (.c 86),de P "__static_attributes__" 279 (.c 87),de P "__doc__" 280 .ds] 2,#[]⟩,
⟨.type "type", none,.cls ⟨"NoTurns", [.ref 31],[.ref 89,.ref 31,.bc, .bp, .aL, .ak],88,"NoTurns", true,[],[],false,none,false⟩,#[some (.c 73),none,some (.str "NoTurns" 260),some (.str "NoTurns" 268),some .ae,some .aq]⟩,
⟨.type "super", none,.fields #[.ref 89,.ref 89,.ref 89],#[]⟩,
⟨.type "builtin_function_or_method", none,.fields #[.builtin "object.__init_subclass__", .ref 89],#[]⟩,
⟨.type "tuple", none,.seq #[.ref 31] 0,#[]⟩,
⟨.type "builtin_function_or_method", none,.fields #[.builtin "type.__prepare__", .type "type"],#[]⟩,
⟨.type "dict", none,.dict #[de P "__module__" 290 .r,de P "__qualname__" 292 (.str "TooMany" 291),de P "__firstlineno__" 294 (.ag (18) 293),de P "word" 301 (.c 105),de P "__static_attributes__" 302 (.c 106)] 5,#[]⟩,
⟨.type "tuple", none,.seq #[] 0,#[]⟩,
⟨.none,none,.fields #[.int (20) 0,.int (4) 0,.ref 104],#[]⟩,
⟨.type "code", none,.fields #[.str "TooMany" 285,.str "TooMany" 286,.str "/claim/cut.py" 287,.int (18) 0,.int (0) 0,.int (0) 0,.int (0) 0,.int (0) 0,.ref 95,.bool false,.int (181) 0,.ref 96,.none,.none,.none,.none,.int (288) 0,.int (18) 0,.str "/claim/cut.py" 289],#[]⟩,
⟨.type "frame", none,.plain,#[some (.c 97),some (.c 3),some (.c 94),none,some .r,none,some (.c 0)]⟩] ++
 (gA 99 (tc 5 0) "word" "TooMany.word" 295 20 1 .aT .r ++
 ([.ar,
⟨.type "dict", none,.dict #[de P "__module__" 290 .r,de P "__firstlineno__" 294 (.ag (18) 293),de P "word" 301 (.c 105),de P "__static_attributes__" 302 (.c 106),de P "__doc__" 303 .ds] 2,#[]⟩,
⟨.type "type", none,.cls ⟨"TooMany", [.ref 31],[.ref 108,.ref 31,.bc, .bp, .aL, .ak],107,"TooMany", true,[],[],false,none,false⟩,#[some (.c 92),none,some (.str "TooMany" 283),some (.str "TooMany" 291),some .ae,some .aq]⟩,
⟨.type "super", none,.fields #[.ref 108,.ref 108,.ref 108],#[]⟩,
⟨.type "builtin_function_or_method", none,.fields #[.builtin "object.__init_subclass__", .ref 108],#[]⟩,
⟨.type "tuple", none,.seq #[.ref 31] 0,#[]⟩,
⟨.type "builtin_function_or_method", none,.fields #[.builtin "type.__prepare__", .type "type"],#[]⟩,
⟨.type "dict", none,.dict #[de P "__module__" 313 .r,de P "__qualname__" 315 (.str "NoText" 314),de P "__firstlineno__" 317 (.ag (22) 316),de P "__init__" 325 (.c 124),de P "word" 332 (.c 131),de P "__static_attributes__" 334 (.c 132)] 6,#[]⟩,
⟨.type "tuple", none,.seq #[] 0,#[]⟩,
⟨.none,none,.fields #[.int (24) 0,.int (4) 0,.ref 123,.int (27) 0,.int (4) 0,.ref 130],#[]⟩,
⟨.type "code", none,.fields #[.str "NoText" 308,.str "NoText" 309,.str "/claim/cut.py" 310,.int (22) 0,.int (0) 0,.int (0) 0,.int (0) 0,.int (0) 0,.ref 114,.bool false,.int (181) 0,.ref 115,.none,.none,.none,.none,.int (311) 0,.int (22) 0,.str "/claim/cut.py" 312],#[]⟩,
⟨.type "frame", none,.plain,#[some (.c 116),some (.c 3),some (.c 113),none,some .r,none,some (.c 0)]⟩] ++
 (gA 118 (tc 6 0) "__init__" "NoText.__init__" 318 24 2 ["self","place"] .r ++
 (gA 125 (tc 6 1) "word" "NoText.word" 326 27 1 .aT .r ++
 ([⟨.aM, none,.seq #[.str "place" 333] 0,#[]⟩,
⟨.type "dict", none,.dict #[de P "__module__" 313 .r,de P "__firstlineno__" 317 (.ag (22) 316),de P "__init__" 325 (.c 124),de P "word" 332 (.c 131),de P "__static_attributes__" 334 (.c 132),de P "__doc__" 335 .ds] 2,#[]⟩,
⟨.type "type", none,.cls ⟨"NoText", [.ref 31],[.ref 134,.ref 31,.bc, .bp, .aL, .ak],133,"NoText", true,[],[],false,none,false⟩,#[some (.c 111),none,some (.str "NoText" 306),some (.str "NoText" 314),some .ae,some .aq]⟩,
⟨.type "super", none,.fields #[.ref 134,.ref 134,.ref 134],#[]⟩,
⟨.type "builtin_function_or_method", none,.fields #[.builtin "object.__init_subclass__", .ref 134],#[]⟩,
⟨.type "tuple", none,.seq #[.ref 31] 0,#[]⟩,
⟨.type "builtin_function_or_method", none,.fields #[.builtin "type.__prepare__", .type "type"],#[]⟩,
⟨.type "dict", none,.dict #[de P "__module__" 345 .r,de P "__qualname__" 347 (.str "NoPart" 346),de P "__firstlineno__" 349 (.ag (29) 348),de P "__init__" 357 (.c 150),de P "word" 364 (.c 157),de P "__static_attributes__" 366 (.c 158)] 6,#[]⟩,
⟨.type "tuple", none,.seq #[] 0,#[]⟩,
⟨.none,none,.fields #[.int (31) 0,.int (4) 0,.ref 149,.int (34) 0,.int (4) 0,.ref 156],#[]⟩,
⟨.type "code", none,.fields #[.str "NoPart" 340,.str "NoPart" 341,.str "/claim/cut.py" 342,.int (29) 0,.int (0) 0,.int (0) 0,.int (0) 0,.int (0) 0,.ref 140,.bool false,.int (181) 0,.ref 141,.none,.none,.none,.none,.int (343) 0,.int (29) 0,.str "/claim/cut.py" 344],#[]⟩,
⟨.type "frame", none,.plain,#[some (.c 142),some (.c 3),some (.c 139),none,some .r,none,some (.c 0)]⟩] ++
 (gA 144 (tc 7 0) "__init__" "NoPart.__init__" 350 31 2 .fN .r ++
 (gA 151 (tc 7 1) "word" "NoPart.word" 358 34 1 .aT .r ++
 ([⟨.aM, none,.seq #[.str "name" 365] 0,#[]⟩,
⟨.type "dict", none,.dict #[de P "__module__" 345 .r,de P "__firstlineno__" 349 (.ag (29) 348),de P "__init__" 357 (.c 150),de P "word" 364 (.c 157),de P "__static_attributes__" 366 (.c 158),de P "__doc__" 367 .ds] 2,#[]⟩,
⟨.type "type", none,.cls ⟨"NoPart", [.ref 31],[.ref 160,.ref 31,.bc, .bp, .aL, .ak],159,"NoPart", true,[],[],false,none,false⟩,#[some (.c 137),none,some (.str "NoPart" 338),some (.str "NoPart" 346),some .ae,some .aq]⟩,
⟨.type "super", none,.fields #[.ref 160,.ref 160,.ref 160],#[]⟩,
⟨.type "builtin_function_or_method", none,.fields #[.builtin "object.__init_subclass__", .ref 160],#[]⟩,
⟨.type "tuple", none,.seq #[.ref 31] 0,#[]⟩,
⟨.type "builtin_function_or_method", none,.fields #[.builtin "type.__prepare__", .type "type"],#[]⟩,
⟨.type "dict", none,.dict #[de P "__module__" 377 .r,de P "__qualname__" 379 (.str "Twice" 378),de P "__firstlineno__" 381 (.ag (36) 380),de P "__init__" 389 (.c 176),de P "word" 396 (.c 183),de P "__static_attributes__" 398 (.c 184)] 6,#[]⟩,
⟨.type "tuple", none,.seq #[] 0,#[]⟩,
⟨.none,none,.fields #[.int (38) 0,.int (4) 0,.ref 175,.int (41) 0,.int (4) 0,.ref 182],#[]⟩,
⟨.type "code", none,.fields #[.str "Twice" 372,.str "Twice" 373,.str "/claim/cut.py" 374,.int (36) 0,.int (0) 0,.int (0) 0,.int (0) 0,.int (0) 0,.ref 166,.bool false,.int (181) 0,.ref 167,.none,.none,.none,.none,.int (375) 0,.int (36) 0,.str "/claim/cut.py" 376],#[]⟩,
⟨.type "frame", none,.plain,#[some (.c 168),some (.c 3),some (.c 165),none,some .r,none,some (.c 0)]⟩] ++
 (gA 170 (tc 8 0) "__init__" "Twice.__init__" 382 38 2 .fN .r ++
 (gA 177 (tc 8 1) "word" "Twice.word" 390 41 1 .aT .r ++
 ([⟨.aM, none,.seq #[.str "name" 397] 0,#[]⟩,
⟨.type "dict", none,.dict #[de P "__module__" 377 .r,de P "__firstlineno__" 381 (.ag (36) 380),de P "__init__" 389 (.c 176),de P "word" 396 (.c 183),de P "__static_attributes__" 398 (.c 184),de P "__doc__" 399 .ds] 2,#[]⟩,
⟨.type "type", none,.cls ⟨"Twice", [.ref 31],[.ref 186,.ref 31,.bc, .bp, .aL, .ak],185,"Twice", true,[],[],false,none,false⟩,#[some (.c 163),none,some (.str "Twice" 370),some (.str "Twice" 378),some .ae,some .aq]⟩,
⟨.type "super", none,.fields #[.ref 186,.ref 186,.ref 186],#[]⟩,
⟨.type "builtin_function_or_method", none,.fields #[.builtin "object.__init_subclass__", .ref 186],#[]⟩,
⟨.type "tuple", none,.seq #[.ref 31] 0,#[]⟩,
⟨.type "builtin_function_or_method", none,.fields #[.builtin "type.__prepare__", .type "type"],#[]⟩,
⟨.type "dict", none,.dict #[de P "__module__" 409 .r,de P "__qualname__" 411 (.str "Ring" 410),de P "__firstlineno__" 413 (.ag (43) 412),de P "__init__" 421 (.c 202),de P "word" 428 (.c 209),de P "__static_attributes__" 430 (.c 210)] 6,#[]⟩,
⟨.type "tuple", none,.seq #[] 0,#[]⟩,
⟨.none,none,.fields #[.int (45) 0,.int (4) 0,.ref 201,.int (48) 0,.int (4) 0,.ref 208],#[]⟩,
⟨.type "code", none,.fields #[.str "Ring" 404,.str "Ring" 405,.str "/claim/cut.py" 406,.int (43) 0,.int (0) 0,.int (0) 0,.int (0) 0,.int (0) 0,.ref 192,.bool false,.int (181) 0,.ref 193,.none,.none,.none,.none,.int (407) 0,.int (43) 0,.str "/claim/cut.py" 408],#[]⟩,
⟨.type "frame", none,.plain,#[some (.c 194),some (.c 3),some (.c 191),none,some .r,none,some (.c 0)]⟩] ++
 (gA 196 (tc 9 0) "__init__" "Ring.__init__" 414 45 2 ["self","names"] .r ++
 (gA 203 (tc 9 1) "word" "Ring.word" 422 48 1 .aT .r ++
 ([⟨.aM, none,.seq #[.str "names" 429] 0,#[]⟩,
⟨.type "dict", none,.dict #[de P "__module__" 409 .r,de P "__firstlineno__" 413 (.ag (43) 412),de P "__init__" 421 (.c 202),de P "word" 428 (.c 209),de P "__static_attributes__" 430 (.c 210),de P "__doc__" 431 .ds] 2,#[]⟩,
⟨.type "type", none,.cls ⟨"Ring", [.ref 31],[.ref 212,.ref 31,.bc, .bp, .aL, .ak],211,"Ring", true,[],[],false,none,false⟩,#[some (.c 189),none,some (.str "Ring" 402),some (.str "Ring" 410),some .ae,some .aq]⟩,
⟨.type "super", none,.fields #[.ref 212,.ref 212,.ref 212],#[]⟩,
⟨.type "builtin_function_or_method", none,.fields #[.builtin "object.__init_subclass__", .ref 212],#[]⟩] ++
 (gA 215 (tp 13) "common" "common" 440 53 2 ["one","other","factors"] .b3 ++
 (gA 222 (tp 14) "half" "half" 449 62 2 ["one","other","goal","factors","shift","further"] .b3 ++
 (gA 229 (tp 15) "stepped" "stepped" 461 73 3 ["one","other","goal","factors"] .b3 ++
 (gA 236 (tp 16) "step" "step" 471 78 3 ["one","other","factors","by","rest","a","b","c","d"] .b3 ++
 (gA 243 (tp 17) "upper_half" "upper_half" 486 82 3 ["one","other","shift","top","other_top","a","b","c","d","low","other_low"] .b3 ++
 (gA 250 (tp 18) "factors_joined" "factors_joined" 503 92 2 ["further","factors","a","b","c","d","e","f","g","h"] .b3 ++
 ([.dF] ++
 (gA 258 (tp 22) "is_whole" "is_whole" 526 99 1 ["thing"] .bi ++
 (gA 265 (tp 23) "is_fraction" "is_fraction" 533 101 1 ["thing","top","bottom"] .bi ++
 (gA 272 (tp 24) "plus" "plus" 542 106 2 ["one","other","shared","top","low"] .bi ++
 (gA 279 (tp 25) "minus" "minus" 553 111 2 .bZ .bi ++
 (gA 286 (tp 26) "times" "times" 561 113 2 ["one","other","left","right"] .bi ++
 (gA 293 (tp 27) "show_frac" "show_frac" 571 117 1 ["one","sign","top"] .bi ++
 (gA 300 (tp 28) "figures" "figures" 580 123 1 ["number","blocks","block"] .bi ++
 (gA 307 (tp 29) "read_frac" "read_frac" 589 130 1 ["text","top","stroke","bottom","one"] .bi ++
 (gB 314 (tp 30) "is_figures" "is_figures" 600 142 1 .bi ++
 ([.ar,
⟨.type "builtin_function_or_method", none,.fields #[.builtin "type.__prepare__", .type "type"],#[]⟩,
⟨.type "dict", none,.dict #[de P "__module__" 615 .q,de P "__qualname__" 617 (.str "Part" 616),de P "__firstlineno__" 619 (.ag (145) 618),de P "row" 626 (.c 332),de P "wants" 633 (.c 339),de P "tells" 641 (.c 346),de P "__static_attributes__" 642 (.c 347)] 7,#[]⟩,
⟨.type "tuple", none,.seq #[] 0,#[]⟩,
⟨.none,none,.fields #[.int (147) 0,.int (4) 0,.ref 331,.int (150) 0,.int (4) 0,.ref 338,.int (153) 0,.int (4) 0,.ref 345],#[]⟩,
⟨.type "code", none,.fields #[.str "Part" 610,.str "Part" 611,.str "/claim/cut.py" 612,.int (145) 0,.int (0) 0,.int (0) 0,.int (0) 0,.int (0) 0,.ref 322,.bool false,.int (181) 0,.ref 323,.none,.none,.none,.none,.int (613) 0,.int (145) 0,.str "/claim/cut.py" 614],#[]⟩,
⟨.type "frame", none,.plain,#[some (.c 324),some (.c 3),some (.c 321),none,some .q,none,some (.c 0)]⟩] ++
 (gA 326 (tc 32 0) "row" "Part.row" 620 147 1 .aT .q ++
 (gA 333 (tc 32 1) "wants" "Part.wants" 627 150 1 .aT .q ++
 (gA 340 (tc 32 2) "tells" "Part.tells" 634 153 2 .ab .q ++
 ([.ar,
⟨.type "dict", none,.dict #[de P "__module__" 615 .q,de P "__firstlineno__" 619 (.ag (145) 618),de P "row" 626 (.c 332),de P "wants" 633 (.c 339),de P "tells" 641 (.c 346),de P "__static_attributes__" 642 (.c 347),de P "__dict__" 644 (.c 350),de P "__weakref__" 646 (.c 351),de P "__doc__" 647 .ds] 4,#[]⟩,
⟨.type "type", none,.cls ⟨"Part", .fo,[.f6,.ak],348,"Part", true,[],[.ref 384,.ref 424,.ref 464,.ref 500,.ref 540],false,none,false⟩,#[none,none,some (.str "Part" 608),some (.str "Part" 616),some .Y,some .aq]⟩,
⟨.type "getset_descriptor", none,.fields #[.str "__dict__" 643,.ref 349,.builtin "function.__dict__", .builtin "function.__dict__#set"],#[]⟩,
⟨.type "getset_descriptor", none,.fields #[.str "__weakref__" 645,.ref 349,.builtin "ExceptionGroup.__weakref__", .none],#[]⟩,
⟨.type "super", none,.fields #[.ref 349,.ref 349,.ref 349],#[]⟩,
⟨.type "builtin_function_or_method", none,.fields #[.builtin "object.__init_subclass__", .ref 349],#[]⟩,
⟨.type "tuple", none,.seq #[.ref 349] 0,#[]⟩,
⟨.type "builtin_function_or_method", none,.fields #[.builtin "type.__prepare__", .type "type"],#[]⟩,
⟨.type "dict", none,.dict #[de P "__module__" 657 .q,de P "__qualname__" 659 (.str "In" 658),de P "__firstlineno__" 661 (.ag (155) 660),de P "__init__" 669 (.c 367),de P "row" 676 (.c 374),de P "tells" 684 (.c 381),de P "__static_attributes__" 686 (.c 382)] 7,#[]⟩,
⟨.type "tuple", none,.seq #[] 0,#[]⟩,
⟨.none,none,.fields #[.int (157) 0,.int (4) 0,.ref 366,.int (160) 0,.int (4) 0,.ref 373,.int (163) 0,.int (4) 0,.ref 380],#[]⟩,
⟨.type "code", none,.fields #[.str "In" 652,.str "In" 653,.str "/claim/cut.py" 654,.int (155) 0,.int (0) 0,.int (0) 0,.int (0) 0,.int (0) 0,.ref 357,.bool false,.int (181) 0,.ref 358,.none,.none,.none,.none,.int (655) 0,.int (155) 0,.str "/claim/cut.py" 656],#[]⟩,
⟨.type "frame", none,.plain,#[some (.c 359),some (.c 3),some (.c 356),none,some .q,none,some (.c 0)]⟩] ++
 (gA 361 (tc 33 0) "__init__" "In.__init__" 662 157 2 .fN .q ++
 (gA 368 (tc 33 1) "row" "In.row" 670 160 1 .aT .q ++
 (gA 375 (tc 33 2) "tells" "In.tells" 677 163 2 .ab .q ++
 ([⟨.aM, none,.seq #[.str "name" 685] 0,#[]⟩,
⟨.type "dict", none,.dict #[de P "__module__" 657 .q,de P "__firstlineno__" 661 (.ag (155) 660),de P "__init__" 669 (.c 367),de P "row" 676 (.c 374),de P "tells" 684 (.c 381),de P "__static_attributes__" 686 (.c 382),de P "__doc__" 687 .ds] 2,#[]⟩,
⟨.type "type", none,.cls ⟨"In", .gI,[.ref 384,.f6,.ak],383,"In", true,[],[],false,none,false⟩,#[some (.c 354),none,some (.str "In" 650),some (.str "In" 658),some .Y,some .aq]⟩,
⟨.type "super", none,.fields #[.ref 384,.ref 384,.ref 384],#[]⟩,
⟨.type "builtin_function_or_method", none,.fields #[.builtin "object.__init_subclass__", .ref 384],#[]⟩,
⟨.type "tuple", none,.seq #[.ref 349] 0,#[]⟩,
⟨.type "builtin_function_or_method", none,.fields #[.builtin "type.__prepare__", .type "type"],#[]⟩,
⟨.type "dict", none,.dict #[de P "__module__" 697 .q,de P "__qualname__" 699 (.str "Cell" 698),de P "__firstlineno__" 701 (.ag (165) 700),de P "__init__" 710 (.c 400),de P "row" 717 (.c 407),de P "wants" 724 (.c 414),de P "tells" 732 (.c 421),de P "__static_attributes__" 735 (.c 422)] 8,#[]⟩,
⟨.type "tuple", none,.seq #[] 0,#[]⟩,
⟨.none,none,.fields #[.int (167) 0,.int (4) 0,.ref 399,.int (171) 0,.int (4) 0,.ref 406,.int (174) 0,.int (4) 0,.ref 413,.int (177) 0,.int (4) 0,.ref 420],#[]⟩,
⟨.type "code", none,.fields #[.str "Cell" 692,.str "Cell" 693,.str "/claim/cut.py" 694,.int (165) 0,.int (0) 0,.int (0) 0,.int (0) 0,.int (0) 0,.ref 390,.bool false,.int (181) 0,.ref 391,.none,.none,.none,.none,.int (695) 0,.int (165) 0,.str "/claim/cut.py" 696],#[]⟩,
⟨.type "frame", none,.plain,#[some (.c 392),some (.c 3),some (.c 389),none,some .q,none,some (.c 0)]⟩] ++
 (gA 394 (tc 34 0) "__init__" "Cell.__init__" 702 167 3 .gw .q ++
 (gA 401 (tc 34 1) "row" "Cell.row" 711 171 1 .aT .q ++
 (gA 408 (tc 34 2) "wants" "Cell.wants" 718 174 1 .aT .q ++
 (gA 415 (tc 34 3) "tells" "Cell.tells" 725 177 2 .ab .q ++
 ([⟨.aM, none,.seq #[.str "name" 733,.str "source" 734] 0,#[]⟩,
⟨.type "dict", none,.dict #[de P "__module__" 697 .q,de P "__firstlineno__" 701 (.ag (165) 700),de P "__init__" 710 (.c 400),de P "row" 717 (.c 407),de P "wants" 724 (.c 414),de P "tells" 732 (.c 421),de P "__static_attributes__" 735 (.c 422),de P "__doc__" 736 .ds] 2,#[]⟩,
⟨.type "type", none,.cls ⟨"Cell", .gI,[.ref 424,.f6,.ak],423,"Cell", true,[],[],false,none,false⟩,#[some (.c 387),none,some (.str "Cell" 690),some (.str "Cell" 698),some .Y,some .aq]⟩,
⟨.type "super", none,.fields #[.ref 424,.ref 424,.ref 424],#[]⟩,
⟨.type "builtin_function_or_method", none,.fields #[.builtin "object.__init_subclass__", .ref 424],#[]⟩,
⟨.type "tuple", none,.seq #[.ref 349] 0,#[]⟩,
⟨.type "builtin_function_or_method", none,.fields #[.builtin "type.__prepare__", .type "type"],#[]⟩,
⟨.type "dict", none,.dict #[de P "__module__" 746 .q,de P "__qualname__" 748 (.str "Gain" 747),de P "__firstlineno__" 750 (.ag (179) 749),de P "__init__" 760 (.c 440),de P "row" 767 (.c 447),de P "wants" 774 (.c 454),de P "tells" 782 (.c 461),de P "__static_attributes__" 786 (.c 462)] 8,#[]⟩,
⟨.type "tuple", none,.seq #[] 0,#[]⟩,
⟨.none,none,.fields #[.int (181) 0,.int (4) 0,.ref 439,.int (186) 0,.int (4) 0,.ref 446,.int (189) 0,.int (4) 0,.ref 453,.int (192) 0,.int (4) 0,.ref 460],#[]⟩,
⟨.type "code", none,.fields #[.str "Gain" 741,.str "Gain" 742,.str "/claim/cut.py" 743,.int (179) 0,.int (0) 0,.int (0) 0,.int (0) 0,.int (0) 0,.ref 430,.bool false,.int (181) 0,.ref 431,.none,.none,.none,.none,.int (744) 0,.int (179) 0,.str "/claim/cut.py" 745],#[]⟩,
⟨.type "frame", none,.plain,#[some (.c 432),some (.c 3),some (.c 429),none,some .q,none,some (.c 0)]⟩] ++
 (gA 434 (tc 35 0) "__init__" "Gain.__init__" 751 181 4 .eN .q ++
 (gA 441 (tc 35 1) "row" "Gain.row" 761 186 1 .aT .q ++
 (gA 448 (tc 35 2) "wants" "Gain.wants" 768 189 1 .aT .q ++
 (gA 455 (tc 35 3) "tells" "Gain.tells" 775 192 2 .ab .q ++
 ([⟨.aM, none,.seq #[.str "by" 783,.str "name" 784,.str "source" 785] 0,#[]⟩,
⟨.type "dict", none,.dict #[de P "__module__" 746 .q,de P "__firstlineno__" 750 (.ag (179) 749),de P "__init__" 760 (.c 440),de P "row" 767 (.c 447),de P "wants" 774 (.c 454),de P "tells" 782 (.c 461),de P "__static_attributes__" 786 (.c 462),de P "__doc__" 787 .ds] 2,#[]⟩,
⟨.type "type", none,.cls ⟨"Gain", .gI,[.ref 464,.f6,.ak],463,"Gain", true,[],[],false,none,false⟩,#[some (.c 427),none,some (.str "Gain" 739),some (.str "Gain" 747),some .Y,some .aq]⟩,
⟨.type "super", none,.fields #[.ref 464,.ref 464,.ref 464],#[]⟩,
⟨.type "builtin_function_or_method", none,.fields #[.builtin "object.__init_subclass__", .ref 464],#[]⟩,
⟨.type "tuple", none,.seq #[.ref 349] 0,#[]⟩,
⟨.type "builtin_function_or_method", none,.fields #[.builtin "type.__prepare__", .type "type"],#[]⟩,
⟨.type "dict", none,.dict #[de P "__module__" 797 .q,de P "__qualname__" 799 (.str "Sum" 798),de P "__firstlineno__" 801 (.ag (194) 800),de P "__init__" 810 (.c 480),de P "row" 816 (.c 485),de P "wants" 822 (.c 490),de P "tells" 833 (.c 497),de P "__static_attributes__" 836 (.c 498)] 8,#[]⟩,
⟨.type "tuple", none,.seq #[] 0,#[]⟩,
⟨.none,none,.fields #[.int (196) 0,.int (4) 0,.ref 479,.int (200) 0,.int (4) 0,.ref 484,.int (203) 0,.int (4) 0,.ref 489,.int (206) 0,.int (4) 0,.ref 496],#[]⟩,
⟨.type "code", none,.fields #[.str "Sum" 792,.str "Sum" 793,.str "/claim/cut.py" 794,.int (194) 0,.int (0) 0,.int (0) 0,.int (0) 0,.int (0) 0,.ref 470,.bool false,.int (181) 0,.ref 471,.none,.none,.none,.none,.int (795) 0,.int (194) 0,.str "/claim/cut.py" 796],#[]⟩,
⟨.type "frame", none,.plain,#[some (.c 472),some (.c 3),some (.c 469),none,some .q,none,some (.c 0)]⟩] ++
 (gA 474 (tc 36 0) "__init__" "Sum.__init__" 802 196 3 .e7 .q ++
 (gB 481 (tc 36 1) "row" "Sum.row" 811 200 1 .q ++
 (gB 486 (tc 36 2) "wants" "Sum.wants" 817 203 1 .q ++
 (gA 491 (tc 36 3) "tells" "Sum.tells" 823 206 2 ["self","values","total","sign","name"] .q ++
 ([⟨.aM, none,.seq #[.str "name" 834,.str "terms" 835] 0,#[]⟩,
⟨.type "dict", none,.dict #[de P "__module__" 797 .q,de P "__firstlineno__" 801 (.ag (194) 800),de P "__init__" 810 (.c 480),de P "row" 816 (.c 485),de P "wants" 822 (.c 490),de P "tells" 833 (.c 497),de P "__static_attributes__" 836 (.c 498),de P "__doc__" 837 .ds] 2,#[]⟩,
⟨.type "type", none,.cls ⟨"Sum", .gI,[.ref 500,.f6,.ak],499,"Sum", true,[],[],false,none,false⟩,#[some (.c 467),none,some (.str "Sum" 790),some (.str "Sum" 798),some .Y,some .aq]⟩,
⟨.type "super", none,.fields #[.ref 500,.ref 500,.ref 500],#[]⟩,
⟨.type "builtin_function_or_method", none,.fields #[.builtin "object.__init_subclass__", .ref 500],#[]⟩,
⟨.type "tuple", none,.seq #[.ref 349] 0,#[]⟩,
⟨.type "builtin_function_or_method", none,.fields #[.builtin "type.__prepare__", .type "type"],#[]⟩,
⟨.type "dict", none,.dict #[de P "__module__" 847 .q,de P "__qualname__" 849 (.str "Out" 848),de P "__firstlineno__" 851 (.ag (211) 850),de P "__init__" 859 (.c 516),de P "row" 866 (.c 523),de P "wants" 873 (.c 530),de P "tells" 881 (.c 537),de P "__static_attributes__" 883 (.c 538)] 8,#[]⟩,
⟨.type "tuple", none,.seq #[] 0,#[]⟩,
⟨.none,none,.fields #[.int (213) 0,.int (4) 0,.ref 515,.int (216) 0,.int (4) 0,.ref 522,.int (219) 0,.int (4) 0,.ref 529,.int (222) 0,.int (4) 0,.ref 536],#[]⟩,
⟨.type "code", none,.fields #[.str "Out" 842,.str "Out" 843,.str "/claim/cut.py" 844,.int (211) 0,.int (0) 0,.int (0) 0,.int (0) 0,.int (0) 0,.ref 506,.bool false,.int (181) 0,.ref 507,.none,.none,.none,.none,.int (845) 0,.int (211) 0,.str "/claim/cut.py" 846],#[]⟩,
⟨.type "frame", none,.plain,#[some (.c 508),some (.c 3),some (.c 505),none,some .q,none,some (.c 0)]⟩] ++
 (gA 510 (tc 37 0) "__init__" "Out.__init__" 852 213 2 ["self",.cP] .q ++
 (gA 517 (tc 37 1) "row" "Out.row" 860 216 1 .aT .q ++
 (gA 524 (tc 37 2) "wants" "Out.wants" 867 219 1 .aT .q ++
 (gA 531 (tc 37 3) "tells" "Out.tells" 874 222 2 .ab .q ++
 ([⟨.aM, none,.seq #[.str "source" 882] 0,#[]⟩,
⟨.type "dict", none,.dict #[de P "__module__" 847 .q,de P "__firstlineno__" 851 (.ag (211) 850),de P "__init__" 859 (.c 516),de P "row" 866 (.c 523),de P "wants" 873 (.c 530),de P "tells" 881 (.c 537),de P "__static_attributes__" 883 (.c 538),de P "__doc__" 884 .ds] 2,#[]⟩,
⟨.type "type", none,.cls ⟨"Out", .gI,[.ref 540,.f6,.ak],539,"Out", true,[],[],false,none,false⟩,#[some (.c 503),none,some (.str "Out" 840),some (.str "Out" 848),some .Y,some .aq]⟩,
⟨.type "super", none,.fields #[.ref 540,.ref 540,.ref 540],#[]⟩,
⟨.type "builtin_function_or_method", none,.fields #[.builtin "object.__init_subclass__", .ref 540],#[]⟩] ++
 (gB 543 (tp 39) "is_row" "is_row" 889 225 2 (.str "echohouse.tables" 887) ++
 (gB 548 (tp 42) "refuse_run" "refuse_run" 899 229 4 (.str "echohouse.turns" 895) ++
 ([.ar,
⟨.type "builtin_function_or_method", none,.fields #[.builtin "type.__prepare__", .type "type"],#[]⟩,
⟨.type "dict", none,.dict #[de P "__module__" 930 .B,de P "__qualname__" 932 (.str "Wiring" 931),de P "__firstlineno__" 934 (.ag (245) 933),de P "__init__" 940 (.c 564),de P "text" 947 (.c 571),de P "parts" 954 (.c 578),de P "ins" 961 (.c 585),de P "outs" 968 (.c 592),de P "cell_names" 974 (.c 597),de P "order" 980 (.c 602),de P "run" 986 (.c 607),de P "values_at" 992 (.c 612),de P "__static_attributes__" 999 (.c 613)] 13,#[]⟩,
⟨.type "tuple", none,.seq #[] 0,#[]⟩,
⟨.none,none,.fields #[.int (247) 0,.int (4) 0,.ref 563,.int (258) 0,.int (4) 0,.ref 570,.int (261) 0,.int (4) 0,.ref 577,.int (264) 0,.int (4) 0,.ref 584,.int (267) 0,.int (4) 0,.ref 591,.int (270) 0,.int (4) 0,.ref 596,.int (273) 0,.int (4) 0,.ref 601,.int (276) 0,.int (4) 0,.ref 606,.int (286) 0,.int (4) 0,.ref 611],#[]⟩,
⟨.type "code", none,.fields #[.str "Wiring" 925,.str "Wiring" 926,.str "/claim/cut.py" 927,.int (245) 0,.int (0) 0,.int (0) 0,.int (0) 0,.int (0) 0,.ref 556,.bool false,.int (181) 0,.ref 557,.none,.none,.none,.none,.int (928) 0,.int (245) 0,.str "/claim/cut.py" 929],#[]⟩,
⟨.type "frame", none,.plain,#[some (.c 558),some (.c 3),some (.c 555),none,some .B,none,some (.c 0)]⟩] ++
 (gB 560 (tc 52 0) "__init__" "Wiring.__init__" 935 247 2 .B ++
 (gA 565 (tc 52 1) "text" "Wiring.text" 941 258 1 .aT .B ++
 (gA 572 (tc 52 2) "parts" "Wiring.parts" 948 261 1 .aT .B ++
 (gA 579 (tc 52 3) "ins" "Wiring.ins" 955 264 1 .aT .B ++
 (gA 586 (tc 52 4) "outs" "Wiring.outs" 962 267 1 .aT .B ++
 (gB 593 (tc 52 5) "cell_names" "Wiring.cell_names" 969 270 1 .B ++
 (gB 598 (tc 52 6) "order" "Wiring.order" 975 273 1 .B ++
 (gB 603 (tc 52 7) "run" "Wiring.run" 981 276 3 .B ++
 (gB 608 (tc 52 8) "values_at" "Wiring.values_at" 987 286 3 .B ++
 ([⟨.aM, none,.seq #[.str "all_parts" 993,.str "cell_parts" 994,.str "in_parts" 995,.str "inner_parts" 996,.str "out_parts" 997,.str "whole" 998] 0,#[]⟩,
⟨.type "dict", none,.dict #[de P "__module__" 930 .B,de P "__firstlineno__" 934 (.ag (245) 933),de P "__init__" 940 (.c 564),de P "text" 947 (.c 571),de P "parts" 954 (.c 578),de P "ins" 961 (.c 585),de P "outs" 968 (.c 592),de P "cell_names" 974 (.c 597),de P "order" 980 (.c 602),de P "run" 986 (.c 607),de P "values_at" 992 (.c 612),de P "__static_attributes__" 999 (.c 613),de P "__dict__" 1001 (.c 616),de P "__weakref__" 1003 (.c 617),de P "__doc__" 1004 .ds] 4,#[]⟩,
⟨.type "type", none,.cls ⟨"Wiring", .fo,[.ref 615,.ak],614,"Wiring", true,[],[],false,none,false⟩,#[none,none,some (.str "Wiring" 923),some (.str "Wiring" 931),some .Y,some .aq]⟩,
⟨.type "getset_descriptor", none,.fields #[.str "__dict__" 1000,.ref 615,.builtin "function.__dict__", .builtin "function.__dict__#set"],#[]⟩,
⟨.type "getset_descriptor", none,.fields #[.str "__weakref__" 1002,.ref 615,.builtin "ExceptionGroup.__weakref__", .none],#[]⟩,
⟨.type "super", none,.fields #[.ref 615,.ref 615,.ref 615],#[]⟩,
⟨.type "builtin_function_or_method", none,.fields #[.builtin "object.__init_subclass__", .ref 615],#[]⟩] ++
 (gA 620 (tp 53) "read_parts" "read_parts" 1007 293 1 ["text","parts","place","row","part"] .B ++
 (gA 627 (tp 54) "read_part" "read_part" 1018 301 1 ["row","word","words"] .B ++
 (gA 634 (tp 55) "read_gain" "read_gain" 1027 314 3 ["name","number",.cP,"by"] .B ++
 (gA 641 (tp 56) "read_factor" "read_factor" 1037 317 1 ["text","by"] .B ++
 (gB 648 (tp 57) "read_sum" "read_sum" 1045 323 2 .B ++
 (gB 653 (tp 58) "are_names" "are_names" 1051 326 2 .B ++
 (gB 658 (tp 59) "is_name" "is_name" 1057 328 1 .B ++
 (gA 663 (tp 60) "refuse_names" "refuse_names" 1063 330 1 ["parts","named","part","name"] .B ++
 (gB 670 (tp 61) "refuse_counts" "refuse_counts" 1073 341 1 .B ++
 (gB 675 (tp 62) "in_order" "in_order" 1079 349 1 .B ++
 (gB 680 (tp 63) "free_names" "free_names" 1085 360 2 .B ++
 (gA 685 (tp 64) "least_ring" "least_ring" 1091 362 1 ["wanted","many","start","ring"] .B ++
 (gB 692 (tp 65) "ring_from" "ring_from" 1101 369 3 .B ++
 (gB 697 (tp 66) "steps_back" "steps_back" 1107 377 3 .B ++
 (gA 702 (tp 68) "_law_cell" "_law_cell" 1115 384 2 [.bV,.ef] .s ++
 (gA 709 (tp 69) "_law_digits" "_law_digits" 1123 388 2 [.ao,"_law_bases","_law_found","_law_left","_law_base"] .s ++
 (gA 716 (tp 70) "_law_mixed" "_law_mixed" 1134 395 2 [.ao,.ed,"_law_found","_law_number",.ef] .s ++
 (gB 723 (tp 71) "_law_drawn" "_law_drawn" 1145 402 2 .s ++
 (gB 728 (tp 72) "_law_names" "_law_names" 1151 406 2 .s ++
 (gA 733 (tp 73) "_law_frac" "_law_frac" 1157 416 2 ["_law_top","_law_bottom",.hR,.fU] .s ++
 (gA 740 (tp 74) "_law_inner" "_law_inner" 1167 421 3 ["_law_name",.dH,"_law_some","_law_terms","_law_digit"] .s ++
 (gB 747 (tp 75) "_law_parts" "_law_parts" 1178 428 1 .s ++
 (gB 752 (tp 76) "_law_laid" "_law_laid" 1184 444 2 .s ++
 (gA 757 (tp 77) "_law_frac_text" "_law_frac_text" 1190 449 1 ["_law_one"] .s ++
 (gB 764 (tp 78) "_law_row" "_law_row" 1197 453 1 .s ++
 (gB 769 (tp 79) "_law_text" "_law_text" 1203 459 1 .s ++
 (gA 774 (tp 80) "_law_value" "_law_value" 1209 461 1 [.ao,.dH] .s ++
 (gA 781 (tp 81) "_law_summed" "_law_summed" 1217 464 3 [.hR,"_law_by",.fU,"_law_top"] .s ++
 (gB 788 (tp 82) "_law_rows_summed" "_law_rows_summed" 1227 467 3 .s ++
 (gA 793 (tp 83) "_law_kind" "_law_kind" 1233 472 1 .cG .s ++
 (gB 800 (tp 84) "_law_other_order" "_law_other_order" 1240 474 1 .s ++
 (gB 805 (tp 85) "_law_drawn_row" "_law_drawn_row" 1246 478 3 .s ++
 (gB 810 (tp 86) "law" "law" 1252 480 1 .s))))))))))))))))))))))))))))))))))))))))))))))))))))))))))))))))))))))))))))))))))))))))))))))))))))))))))))))))))
noncomputable def RM (P:Params):PySem.W.BT:=CN 12 ((((ob P).take 15).set 3 (o3 P 9 9 (.str "__main__" 164))).set 12 (Cq 0))
noncomputable def TQ (P:Params):PySem.W.BT:=CN 12 (((((ob P).take 73).set 3 (o3 P 12 12 .r)).set 12 (Cq 3)).set 31 (⟨.ew, none,.cls ⟨.fV, .ga,.a7,30,.fV, true,[],[.ref 51,.ref 70],false,none,false⟩,.Z⟩))
noncomputable def TR (P:Params):PySem.W.BT:=CN 12 (((((ob P).take 137).set 3 (o3 P 15 15 .r)).set 12 (Cq 6)).set 31 (⟨.ew, none,.cls ⟨.fV, .ga,.a7,30,.fV, true,[],[.ref 51,.ref 70,.ref 89,.ref 108,.ref 134],false,none,false⟩,.Z⟩))
noncomputable def TU (P:Params):PySem.W.BT:=CN 12 (((((ob P).take 189).set 3 (o3 P 17 17 .r)).set 12 (Cq 8)).set 31 (⟨.ew, none,.cls ⟨.fV, .ga,.a7,30,.fV, true,[],[.ref 51,.ref 70,.ref 89,.ref 108,.ref 134,.ref 160,.ref 186],false,none,false⟩,.Z⟩))
noncomputable def TV (P:Params):PySem.W.BT:=CN 12 ((((ob P).take 257).set 3 (o3 P 26 26 .b3)).set 12 (Cq 15))
noncomputable def TX (P:Params):PySem.W.BT:=CN 12 (((((ob P).take 354).set 3 (o3 P 38 38 .q)).set 12 (Cq 25)).set 349 ((.x ⟨"Part", .fo,[.f6,.ak],348,"Part", true,[],[],false,none,false⟩)))
noncomputable def TY (P:Params):PySem.W.BT:=CN 12 (((((ob P).take 427).set 3 (o3 P 40 40 .q)).set 12 (Cq 27)).set 349 ((.x ⟨"Part", .fo,[.f6,.ak],348,"Part", true,[],[.ref 384,.ref 424],false,none,false⟩)))
noncomputable def TZ (P:Params):PySem.W.BT:=CN 12 (((((ob P).take 503).set 3 (o3 P 42 42 .q)).set 12 (Cq 29)).set 349 ((.x ⟨"Part", .fo,[.f6,.ak],348,"Part", true,[],[.ref 384,.ref 424,.ref 464,.ref 500],false,none,false⟩)))
noncomputable def T1 (P:Params):PySem.W.BT:=CN 12 ((((ob P).take 620).set 3 (o3 P 55 55 .B)).set 12 (Cq 33))
noncomputable def T2 (P:Params):PySem.W.BT:=CN 12 ((((ob P).take 723).set 3 (o3 P 72 72 .s)).set 12 (Cq 50))
def uz (P:Params):PySem.W.BT:=CN 12 (((ob P).set 3 (o3 P 88 88 .s)).set 12 (Cq 66))
abbrev bd:List Stmt:=pg.main.body
noncomputable def en:Env:={ scope:=pg.main.scope,locals:=mainNs,globals:=mainNs,cells:=[],code:=.ref 13,frame:=some 14 }
def cE:Code:=.body bd en
theorem h0 (P:Params):PySem.W.absHeap (CN 12 (bol P)) 11 {}=PySem.W.boot_heap P:=.a
set_option maxHeartbeats 0 in
open PySem.W PySem.Calls in
theorem hp (w:World):(fun os:OsState=>Ro treeTable pg w 11 (.U 6) 12 ⟨CN 12 (bol w.params),11,{},#[],boot_drawn,boot_toks,os⟩ (topStub pg))=fun os=>some (.bg,⟨denote treeTable (.body bd en),cE,.gP,.aI⟩):=.a
set_option maxHeartbeats 0 in
open PySem.W PySem.Calls in
theorem hq (w:World):(fun os:OsState=>segRunT treeTable pg w 11 (.U 6) 1 1 .bg (blockOf bd en cE ⟨0,0,0,0⟩ .aI))=fun os=>some (.next,.bg,cE,⟨0,0,0,0⟩):=.a
set_option maxHeartbeats 0 in
open PySem.W PySem.Calls in
theorem Kg (w:World):(fun os:OsState=>segRunT treeTable pg w 11 (.U 6) 1 712 .bg (piecesOf (.r 0 4) en cE ⟨0,0,0,0⟩ .aI))=fun os=>some (.next,(⟨TQ w.params,73,{},#[],PySem.W.boot_drawn,260,os⟩:PySem.W.SharedT),cE,⟨10,0,13,23⟩):=.a
set_option maxHeartbeats 0 in
open PySem.W PySem.Calls in
theorem PL (w:World):(fun os:OsState=>segRunT treeTable pg w 11 (.U 6) 1 763 (⟨TQ w.params,73,{},#[],PySem.W.boot_drawn,260,os⟩:PySem.W.SharedT) (piecesOf (.r 4 3) en cE ⟨10,0,13,23⟩ .aI))=fun os=>some (.next,(⟨TR w.params,137,{},#[],PySem.W.boot_drawn,338,os⟩:PySem.W.SharedT),cE,⟨22,0,28,24⟩):=.a
set_option maxHeartbeats 0 in
open PySem.W PySem.Calls in
theorem T8 (w:World):(fun os:OsState=>segRunT treeTable pg w 11 (.U 6) 1 553 (⟨TR w.params,137,{},#[],PySem.W.boot_drawn,338,os⟩:PySem.W.SharedT) (piecesOf (.r 7 2) en cE ⟨22,0,28,24⟩ .aI))=fun os=>some (.next,(⟨TU w.params,189,{},#[],PySem.W.boot_drawn,402,os⟩:PySem.W.SharedT),cE,⟨36,0,42,22⟩):=.a
set_option maxHeartbeats 0 in
open PySem.W PySem.Calls in
theorem T9 (w:World):(fun os:OsState=>segRunT treeTable pg w 11 (.U 6) 1 515 (⟨TU w.params,189,{},#[],PySem.W.boot_drawn,402,os⟩:PySem.W.SharedT) (piecesOf (.r 9 10) en cE ⟨36,0,42,22⟩ .aI))=fun os=>some (.next,(⟨TV w.params,257,{},#[],PySem.W.boot_drawn,519,os⟩:PySem.W.SharedT),cE,⟨92,0,95,71⟩):=.a
set_option maxHeartbeats 0 in
open PySem.W PySem.Calls in
theorem Ua (w:World):(fun os:OsState=>segRunT treeTable pg w 11 (.U 6) 1 599 (⟨TV w.params,257,{},#[],PySem.W.boot_drawn,519,os⟩:PySem.W.SharedT) (piecesOf (.r 19 14) en cE ⟨92,0,95,71⟩ .aI))=fun os=>some (.next,(⟨TX w.params,354,{},#[],PySem.W.boot_drawn,650,os⟩:PySem.W.SharedT),cE,⟨145,0,154,21⟩):=.a
set_option maxHeartbeats 0 in
open PySem.W PySem.Calls in
theorem Ub (w:World):(fun os:OsState=>segRunT treeTable pg w 11 (.U 6) 1 650 (⟨TX w.params,354,{},#[],PySem.W.boot_drawn,650,os⟩:PySem.W.SharedT) (piecesOf (.r 33 2) en cE ⟨145,0,154,21⟩ .aI))=fun os=>some (.next,(⟨TY w.params,427,{},#[],PySem.W.boot_drawn,739,os⟩:PySem.W.SharedT),cE,⟨165,0,178,34⟩):=.a
set_option maxHeartbeats 0 in
open PySem.W PySem.Calls in
theorem Uc (w:World):(fun os:OsState=>segRunT treeTable pg w 11 (.U 6) 1 682 (⟨TY w.params,427,{},#[],PySem.W.boot_drawn,739,os⟩:PySem.W.SharedT) (piecesOf (.r 35 2) en cE ⟨165,0,178,34⟩ .aI))=fun os=>some (.next,(⟨TZ w.params,503,{},#[],PySem.W.boot_drawn,840,os⟩:PySem.W.SharedT),cE,⟨194,0,210,20⟩):=.a
set_option maxHeartbeats 0 in
open PySem.W PySem.Calls in
theorem Ud (w:World):(fun os:OsState=>segRunT treeTable pg w 11 (.U 6) 1 959 (⟨TZ w.params,503,{},#[],PySem.W.boot_drawn,840,os⟩:PySem.W.SharedT) (piecesOf (.r 37 16) en cE ⟨194,0,210,20⟩ .aI))=fun os=>some (.next,(⟨T1 w.params,620,{},#[],PySem.W.boot_drawn,1007,os⟩:PySem.W.SharedT),cE,⟨245,0,292,21⟩):=.a
set_option maxHeartbeats 0 in
open PySem.W PySem.Calls in
theorem Ue (w:World):(fun os:OsState=>segRunT treeTable pg w 11 (.U 6) 1 504 (⟨T1 w.params,620,{},#[],PySem.W.boot_drawn,1007,os⟩:PySem.W.SharedT) (piecesOf (.r 53 18) en cE ⟨245,0,292,21⟩ .aI))=fun os=>some (.next,(⟨T2 w.params,723,{},#[],PySem.W.boot_drawn,1145,os⟩:PySem.W.SharedT),cE,⟨395,0,401,21⟩):=.a
set_option maxHeartbeats 0 in
open PySem.W PySem.Calls in
theorem Sk (w:World):(fun os:OsState=>segRunT treeTable pg w 11 (.U 6) 1 446 (⟨T2 w.params,723,{},#[],PySem.W.boot_drawn,1145,os⟩:PySem.W.SharedT) (piecesOf (.r 71 16) en cE ⟨395,0,401,21⟩ .aI))=fun os=>some (.next,.cH,cE,⟨480,0,502,114⟩):=.a
set_option maxHeartbeats 0 in
open PySem.W PySem.Calls in
theorem hf (w:World):(fun os:OsState=>pI treeTable pg w 11 (.U 6) 2 .cH ⟨doneF .next,cE,⟨480,0,502,114⟩,.aI⟩)=fun os=>some .cH:=.a
theorem hb:bd=(.r 0 4)++((.r 4 3)++((.r 7 2)++((.r 9 10)++((.r 19 14)++((.r 33 2)++((.r 35 2)++((.r 37 16)++((.r 53 18)++((.r 71 16)++[]))))))))):=.a
open PySem.W PySem.Calls in
theorem hr (w:World)(os:OsState):topRun treeTable pg w 11 (.U 6) (12+(1+(712+(763+(553+(515+(599+(650+(682+(959+(504+(446+2)))))))))))) ⟨boot_heap w.params,Array.mk [],boot_drawn,boot_toks,os⟩ (topStub pg)=some .aO:=by
 have L:=Hs (congrFun (hp w) os)
 unfold SharedT.abs at L
 refine go_top L (piece_block (.L (hq w)) ?_)
 have d:=w8 (congrFun (hf w) os)
 rw [hb]
 refine .ad (Kg w)
 refine .ad (PL w)
 refine .ad (T8 w)
 refine .ad (T9 w)
 refine .ad (Ua w)
 refine .ad (Ub w)
 refine .ad (Uc w)
 refine .ad (Ud w)
 refine .ad (Ue w)
 refine .ad (Sk w)
 exact piece_nil d
set_option maxHeartbeats 0 in
open PySem.W PySem.Calls in
theorem OJ (w:World):(fun os:OsState=>staticsOk (importedModules pg.main.body) (boot_heap w.params) (absHeap (uz w.params) 815 {})&&namesBound pg (absHeap (uz w.params) 815 {})&&gensDone .aO&&laidKept (boot_heap w.params) (absHeap (uz w.params) 815 {}))=fun _=>true:=.a
set_option maxHeartbeats 0 in
open PySem.W PySem.Calls in
theorem TC (w:World):(fun os:OsState=>(openSeen qv [] (importedModules pg.main.body) xt true .aO).1)=fun _=>(openGood qv []).1:=.a
set_option maxHeartbeats 0 in
open PySem.W PySem.Calls in
theorem Ug (w:World):(fun os:OsState=>(openSeen qv [] (importedModules pg.main.body) xt true .aO).2)=fun _=>(openGood qv []).2:=.a
set_option maxHeartbeats 0 in
open PySem.W PySem.Calls in
theorem Uh (w:World):(fun os:OsState=>hk.obs .aO)=fun _=>hk.val w:=.a
theorem hl:PySem.W.LeftO lw.row.prog qv [] xt hk.obs hk.val 12872:=P4 (p:=pg) .a .a (fun _=>by kernel_rfl) (fun _=>by kernel_rfl) hr .a OJ TC Ug Uh
theorem ws:lw.wellSaid=true:=.a
end My
namespace L2
open PySem PySem.Spec PyProof.Rows
abbrev Key:=Sum Int Str
def wC:Key->Value->Bool
 | .inl k,v=>Value.isInt k v
 | .inr x,v=>Value.isStrOf x v
def Su (w:World):Key->Int
 | .inl k=>hashInt k
 | .inr x=>hashStr w x
theorem dO:∀{k:Key} {v:Value},wC k v=true->(∃i t,k=Sum.inl i/\v=Value.int i t)\/(∃x t,k=Sum.inr x/\v=Value.str x t)
 | .inl i,v,h=>by
  obtain⟨t,e⟩:=Value.isInt_shape h
  exact .inl ⟨i,t,rfl,e⟩
 | .inr x,v,h=>by
  obtain⟨t,e⟩:=Value.isStrOf_shape h
  exact .bg ⟨x,t,rfl,e⟩
theorem Fq (i:Int)(t:Tok):wC (.inl i) (.ag i t)=true:=by simp [wC,Value.isInt]
theorem Fs (x:Str)(t:Tok):wC (.inr x) (.str x t)=true:=by simp [wC,Value.isStrOf]
theorem Nd (a b:Int):decide ((Sum.inl a:Key)=Sum.inl b)=(a == b):=by grind
theorem Nh (a b:Str):decide ((Sum.inr a:Key)=Sum.inr b)=decide (a=b):=by grind
theorem Nf (a:Int)(b:Str):decide ((Sum.inl a:Key)=Sum.inr b)=false:=decide_eq_false (fun q=>nomatch q)
theorem Ng (a:Str)(b:Int):decide ((Sum.inr a:Key)=Sum.inl b)=false:=decide_eq_false (fun q=>nomatch q)
noncomputable def dP (prog:.ah)(w:World):PySem.KeyKind prog w Key where
 is:=wC
 hash:=Su w
 inj:=fun v a b ha hb=>by
  rcases dO ha with ⟨i,t,rfl,rfl⟩ | ⟨x,t,rfl,rfl⟩
  ·rcases dO hb with ⟨j,u,rfl,e⟩ | ⟨y,u,rfl,e⟩
   ·injection e with e1 _;rw [e1]
   ·exact nomatch e
  ·rcases dO hb with ⟨j,u,rfl,e⟩ | ⟨y,u,rfl,e⟩
   ·exact nomatch e
   ·injection e with e1 _;rw [e1]
 byValue:=fun k v h=>by
  rcases dO h with ⟨i,t,rfl,rfl⟩ | ⟨x,t,rfl,rfl⟩<;>rfl
 pyHash:=fun N h=>by
  rcases dO N with ⟨i,t,rfl,rfl⟩ | ⟨x,t,rfl,rfl⟩
  ·exact wpAny_pyHash_int h
  ·exact wpAny_pyHash_str h
 eqBool:=fun hu N h=>by
  rcases dO hu with ⟨i,t,rfl,rfl⟩ | ⟨x,t,rfl,rfl⟩
  ·rcases dO N with ⟨j,u,rfl,rfl⟩ | ⟨y,u,rfl,rfl⟩
   ·rw [Nd] at h;exact wpAny_eqBool_int h
   ·rw [Nf] at h;exact SeqAt.EqAt.int_str i t y u _ _ _ _ h
  ·rcases dO N with ⟨j,u,rfl,rfl⟩ | ⟨y,u,rfl,rfl⟩
   ·rw [Ng] at h;exact SeqAt.EqAt.str_int x t j u _ _ _ _ h
   ·rw [Nh] at h;exact wpAny_eqBool_str h
 «strs»:=fun k x t v h=>by
  rcases dO h with ⟨i,u,rfl,e⟩ | ⟨y,u,rfl,e⟩
  ·exact nomatch e
  ·injection e with e1 _
   subst e1
   cases v<;>rfl
theorem AB (prog:.ah)(w:World)(i:Int)(t:Tok):(dP prog w).is (.inl i) (.ag i t)=true:=Fq i t
theorem AD (prog:.ah)(w:World)(x:Str)(t:Tok):(dP prog w).is (.inr x) (.str x t)=true:=Fs x t
inductive V where
 |non | bl (b:Bool) | int (i:Int) | str (x:Str) | byt (b:Array UInt8) | flt (b:UInt64) | ref (a:Addr) | ty (n:String)
 deriving DecidableEq
noncomputable def RelV:V->Value->Prop
 | .non,u=>u=Value.none
 | .bl b,u=>u=Value.bool b
 | .int i,u=>∃t,u=Value.int i t
 | .str x,u=>∃t,u=Value.str x t
 | .byt b,u=>∃t,u=Value.bytes b t
 | .flt b,u=>∃t,u=Value.float b t
 | .ref a,u=>u=Value.ref a
 | .ty n,u=>u=Value.type n
abbrev Vals:List V->List Value->Prop:=Paired RelV
theorem Vals.length {xs:List V}{us:.S}(r:Vals xs us):xs.length=us.length:=Paired.length r
theorem Vals.get:∀{xs:List V} {us:.S} {i:Nat} {x:V},Vals xs us->xs[i]? = some x->∃u,us[i]? = some u/\RelV x u
 |_,_,_,_,.nil,e=>by simp at e
 |_,_,0,_,.cons r _,e=>by simp at e;subst e;exact⟨_,rfl,r⟩
 |_,_,i+1,x,.cons _ t,e=>by
  obtain⟨u,h1,h2⟩:=Vals.get t .fE
  exact⟨u,by simpa using h1,h2⟩
theorem Vals.append:∀{xs ys:List V} {us ws:.S},Vals xs us->Vals ys ws->Vals (xs++ys) (us++ws)
 |_,_,_,_,.nil,s=>s
 |_,_,_,_,.cons r t,s=>.cons r (Vals.append t s)
theorem Vals.take:∀{xs:List V} {us:.S} (n:Nat),Vals xs us->Vals (xs.take n) (us.take n)
 |_,_,0,_=>.nil
 |_,_,_+1,.nil=>.nil
 |_,_,n+1,.cons r t=>.cons r (Vals.take n t)
theorem Vals.drop:∀{xs:List V} {us:.S} (n:Nat),Vals xs us->Vals (xs.drop n) (us.drop n)
 |_,_,0,r=>r
 |_,_,_+1,.nil=>.nil
 |_,_,n+1,.cons _ t=>Vals.drop n t
noncomputable def nk:Option V->Option Value->Prop
 |some v,some u=>RelV v u
 |none,none=>True
 |_,_=>False
noncomputable def KV {κ:Type}:List (κ×V)->List (κ×Value)->Prop:=Paired fun (p:κ×V) (q:κ×Value)=>p.1=q.1/\RelV p.2 q.2
def kV:Key->V
 | .inl i=>.int i
 | .inr x=>.str x
inductive HO where
  |lst (xs:List V)
  |tup (xs:List V)
  |dK (kvs:.bW) | dT (kvs:.dJ)
  |set (S:Int->Bool) (n:Nat)
  |ins (C dx:Addr) (fs:List (Str×V))
  |own (x:Addr)
  |xd (fs:List (Str×V))
  |met (f x:Addr)
  |rng (lo hi:Int)
  |frz (o:Obj) (u:HO)
  |tbl (ps:.cv)
  |ext (φ:Heap->Prop)
abbrev Hp:=Addr->Option HO
def upd (H:Hp)(a:Addr)(o:HO):Hp:=fun b=>if b=a then some o else H b
theorem aM {H:Hp}{a:Addr}{o:HO}:upd H a o a=some o:=by unfold upd;rw [if_pos rfl]
theorem ay {H:Hp}{a b:Addr}{o:HO}(h:b≠a):upd H a o b=H b:=by unfold upd;rw [if_neg h]
theorem Qc {H:Hp}{a b:Addr}{o u:HO}(h:H a=some o)(h':H b=some u)(d:o≠u):a≠b:=by
 intro e;subst e;rw [h] at h';exact d (zaT h')
theorem bp {H:Hp}{a b:Addr}{o:HO}(h:H a=some o)(h':H b=none):a≠b:=by
 intro e;subst e;rw [h] at h';cases h'
section
variable (P:.ah)(w:World)
noncomputable def dE (H:Hp)(h:Heap)(a:Addr):HO->Prop
 | .lst xs=>xs.length≤sizeLine/\∃(G:.S) (n:Nat),Vals xs G/\h.get? a=some { cls:=.type "list", data:=.seq G.toArray n }
 | .tup xs=>xs.length≤sizeLine/\∃G:List Value,Vals xs G/\IsTup h a G.toArray
 | .dK kvs=>kvs.length≤sizeLine/\(a == sysModules)=false/\∃vs,KV kvs vs/\h.DictOf (dP P w) a vs
 | .dT kvs=>kvs.length≤sizeLine/\(a == sysModules)=false/\∃xs:List .dS,
   Paired (fun (p:List Key×V) (q:List Key×Addr×Value)=>p.1=q.1/\H q.2.1=some (.tup (p.1.map kV))/\RelV p.2 q.2.2) kvs xs /\
   ∃o es ep,h.get? a=some o/\o.ExactDict/\o.data=.dict es ep/\es.toList=xs.map (entryOfKey (tupleKind (dP P w)))/\(xs.map (·.1)).Nodup
 | .set S n=>h.SetOf (intKind P w) a S n
 | .ins C dx fs=>H dx=some (.own a)/\fs.length≤1000/\dx≠a/\h.get? a=some (PySem.W.instObj C dx) /\
   ∃mA,h.Ns1 dx mA/\(∀f,nk (fs.lookup f) (mA f))/\PySem.Within mA (fs.map (·.1))
 | .own _=>∃o,h.get? a=some o
 | .xd fs=>∃mA,h.Ns1 a mA/\∀f,nk (fs.lookup f) (mA f)
 | .rng lo hi=>∃t u v,h.get? a=some { cls:=.type "range", data:=.fields #[.int lo t,.int hi u,.int 1 v] }
 | .frz o u=>h.get? a=some o/\dE H h a u
 | .tbl ps=>h.get? a=some { cls:=.none,data:=.fields ps }
 | .met f x=>h.get? a=some (PySem.W.methodObj (.c f) (.c x))
 | .ext φ=>φ h/\(∃o,h.get? a=some o)/\∀h1 h2:Heap,φ h1->(∀o,h1.get? a=some o->h2.get? a=some o)->φ h2
def lW (H:Hp)(h:Heap):Prop:=∀a o,H a=some o->dE P w H h a o
end
section
variable {P:.ah}{w:World}{H H':Hp}{h h':Heap}{a:Addr}{o:HO}
theorem dE.lt (x:dE P w H h a o):a<h.objs.size:=by
 cases o with
 |lst xs=>obtain⟨_,_,_,_,e⟩:=x;exact Heap.lt_size e
 |tup xs=>obtain⟨_,_,_,p⟩:=x;exact p.lt
 |dK kvs=>obtain⟨_,_,_,_,o,_,_,e,_⟩:=x;exact Heap.lt_size e
 |dT kvs=>obtain⟨_,_,_,_,o,_,_,e,_⟩:=x;exact Heap.lt_size e
 |set S n=>obtain⟨o,_,_,_,e,_⟩:=x;exact Heap.lt_size e
 |ins C dx fs=>obtain⟨_,_,_,e,_⟩:=x;exact Heap.lt_size e
 |own y=>obtain⟨_,e⟩:=x;exact Heap.lt_size e
 |xd fs=>obtain⟨_,⟨_,_,_,e,_⟩,_⟩:=x;exact Heap.lt_size e
 |rng lo hi=>obtain⟨_,_,_,e⟩:=x;exact Heap.lt_size e
 |frz ob u=>obtain⟨e,_⟩:=x;exact Heap.lt_size e
 |tbl ps=>exact Heap.lt_size (x)
 |met f y=>exact Heap.lt_size (x)
 |ext φ=>obtain⟨_,⟨_,e⟩,_⟩:=x;exact Heap.lt_size e
theorem Paired.mapP {α c:Type}{F G:α->c->Prop}:∀{l₁:List α} {l₂:List c},Paired F l₁ l₂->(∀a b,F a b->G a b)->Paired G l₁ l₂
 |_,_,.nil,_=>.nil
 |_,_,.cons r t,f=>.cons (f _ _ r) (Paired.mapP t f)
theorem dE.stay (x:dE P w H h a o)(k:∀b u,(b=a\/H b=some (.own a))->h.get? b=some u->h'.get? b=some u)
  (ho:∀b,H b=some (.own a)->H' b=some (.own a)) (Y:∀b xs,H b=some .fv->H' b=some .fv):dE P w H' h' a o:=by
 induction o with
 |lst xs=>obtain⟨z,G,n,r,e⟩:=x;exact⟨z,G,n,r,k _ _ .bM e⟩
 |tup xs=>obtain⟨z,G,r,ob,e,c⟩:=x;exact⟨z,G,r,ob,k _ _ .bM e,c⟩
 |dK kvs=>obtain⟨z,y,vs,r,ob,es,ep,e,c⟩:=x;exact⟨z,y,vs,r,ob,es,ep,k _ _ .bM e,c⟩
 |dT kvs =>
  obtain⟨z,y,xs,r,ob,es,ep,e,c⟩:=x
  exact⟨z,y,xs,Paired.mapP r fun p q z=>⟨z.1,Y _ _ z.2.1,z.2.2⟩,ob,es,ep,k _ _ .bM e,c⟩
 |set S n=>obtain⟨ob,es,ep,t,e,c⟩:=x;exact⟨ob,es,ep,t,k _ _ .bM e,c⟩
 |ins C dx fs =>
  obtain⟨d,z,ne,e,mA,⟨od,es,ep,e2,c⟩,r⟩:=x
  exact⟨ho _ d,z,ne,k _ _ .bM e,mA,⟨od,es,ep,k _ _ (.inr d) e2,c⟩,r⟩
 |own y=>obtain⟨ob,e⟩:=x;exact⟨ob,k _ _ .bM e⟩
 |xd fs=>obtain⟨mA,⟨od,es,ep,e,c⟩,r⟩:=x;exact⟨mA,⟨od,es,ep,k _ _ .bM e,c⟩,r⟩
 |rng lo hi=>obtain⟨t,u,v,e⟩:=x;exact⟨t,u,v,k _ _ .bM e⟩
 |frz ob u A=>obtain⟨e,q⟩:=x;exact⟨k _ _ .bM e,A q⟩
 |tbl ps =>
  have e:=x
  exact k a _ .bM e
 |met f y =>
  have e:=x
  exact k a _ .bM e
 |ext φ=>obtain⟨p,⟨o,e⟩,st⟩:=x;exact⟨st _ _ p fun o q=>k _ _ .bM q,⟨o,k _ _ .bM e⟩,st⟩
theorem lW.lt (x:.e0)(e:H a=some o):a<h.objs.size:=(x a o e).lt
theorem lW.fresh (x:.e0)(e:h.objs.size≤a):H a=none:=by
 cases q:H a with
 |none=>rfl
 |some u=>exact absurd (zaw (x.lt q) e) (zaP _)
theorem lW.kept (x:.e0)(k:∀b u,h.get? b=some u->h'.get? b=some u):lW P w H h':=fun a o e =>
 (x a o e).stay (fun b u _ q=>k b u q) (fun _ q=>q) fun _ _ q=>q
theorem lW.laid (x:.e0)(k:∀b u,h.get? b=some u->h'.get? b=some u)(hp:h.objs.size≤a)(new:dE P w (.aj a o) h' a o):lW P w (.aj a o) h':=fun b u e=>by
 have hn:=x.fresh hp
 by_cases hb:b=a
 ·subst hb;rw [aM] at e;cases e;exact new
 ·rw [ay hb] at e
  exact (x b u e).stay (fun c v _ q=>k c v q) (fun c q=>by rw [ay (bp q hn)];exact q) fun c xs q=>by rw [ay (bp q hn)];exact q
end
def Rd (H:Hp)(a:Addr)(u:HO):Prop:=H a=some u\/∃o,H a=some (.frz o u)
theorem Rd.ok {P:.ah}{w:World}{H:Hp}{h:Heap}{a:Addr}{u:HO}(r:Rd H a u)(x:.e0):dE P w H h a u:=by
 rcases r with r | ⟨o,r⟩
 ·exact x a u r
 ·obtain⟨_,q⟩:=x a _ r
  exact q
noncomputable def OV:Option HO->Prop
 |some (.lst _)=>True
 |some (.dK _)=>True
 |some (.dT _)=>True
 |some (.set _ _)=>True
 |some (.ins _ _ _)=>True
 |some (.ext _)=>True
 |_=>False
section
variable {P:.ah}{w:World}{H:Hp}{h h':Heap}{x e:Addr}{o':HO}
theorem lW.write (ok:.e0)(f:OV (H x))(he:e=x\/H e=some (.own x))(k:∀b u,b≠e->h.get? b=some u->h'.get? b=some u)(g:∃u,h'.get? e=some u)
  (new:dE P w (.aj x o') h' x o'):lW P w (.aj x o') h':=fun b u q=>by
 have a:∀c y,H c=some (.own y)->c≠x:=fun c y r z=>by subst z;rw [r] at f;exact f
 have i:∀c xs,H c=some .fv->c≠x:=fun c xs r z=>by subst z;rw [r] at f;exact f
 by_cases hb:b=x
 ·subst hb;rw [aM] at q;cases q;exact new
 ·rw [ay hb] at q
  by_cases d:b=e
  ·have T:H b=some (.own x):=by grind
   rw [q] at T;cases T
   obtain⟨v,N⟩:=g
   exact⟨v,by rw [d];exact N⟩
  ·refine (ok b u q).stay (fun c v U r=>k c v ?_ r) (fun c r=>by rw [ay (a c b r)];exact r) fun c xs r=>by rw [ay (i c xs r)];exact r
   rcases U with rfl | U
   ·exact d
   ·rintro rfl
    rcases he with z | z
    ·exact a c b U z
    ·rw [U] at z;cases z;exact hb rfl
end
structure Un (fs ex:.af)(H H':Hp)(h h':Heap):Prop where
 keep:∀b o,h.get? b=some o->H b=none->b∉fs->b∉ex->h'.get? b=some o
 slot:∀b o,h.get? b=some o->H b=none->b∈fs->b∉ex->∃sl,h'.get? b=some { o with slots:=sl }
 free:∀b o,h.get? b=some o->H b=none->b∉ex->H' b=none
 there:∀b o,h.get? b=some o->b∉ex->∃o',h'.get? b=some o'
 tups:∀b xs,H b=some .fv->H' b=some .fv
 frzs:∀b o u,H b=some (.frz o u)->H' b=some (.frz o u)
 tbls:∀b ps,H b=some (.tbl ps)->∃more,H' b=some (.tbl (ps++more))
section
variable {fs fs' ex ex':.af}{H H1 H2:Hp}{h h1 h2 h':Heap}{a x e:Addr}{o:HO}
theorem Un.any (u:Un fs ex H H1 h h1){b:Addr}{ob:Obj}(q:h.get? b=some ob)(n:H b=none)(hx:b∉ex):∃sl,h1.get? b=some { ob with slots:=sl }:=by
 by_cases hb:b∈fs
 ·exact u.slot b ob q n hb hx
 ·exact⟨ob.slots,u.keep b ob q n hb hx⟩
theorem Un.kept (k:∀b u,h.get? b=some u->h'.get? b=some u):Un fs ex H H h h':=
 ⟨fun b ob q _ _ _=>k b ob q,fun b ob q _ _ _=>⟨ob.slots,k b ob q⟩,fun _ _ _ n _=>n,fun b ob q _=>⟨ob,k b ob q⟩,fun _ _ q=>q,fun _ _ _ q=>q,fun _ ps q=>⟨#[],by rw [q];simp⟩⟩
theorem Un.refl:Un fs ex H H h h:=Un.kept fun _ _ q=>q
theorem Un.laid (k:∀b u,h.get? b=some u->h'.get? b=some u)(hp:h.objs.size≤a)(hn:H a=none):Un fs ex H (.aj a o) h h' where
 keep:=fun b u q _ _ _=>k b u q
 slot:=fun b u q _ _ _=>⟨u.slots,k b u q⟩
 free:=fun b u q n _=>by rw [ay (zat (zaw (.aS q) hp))];exact n
 there:=fun b u q _=>⟨u,k b u q⟩
 tups:=fun b xs q=>by rw [ay (bp q hn)];exact q
 frzs:=fun b u xs q=>by rw [ay (bp q hn)];exact q
 tbls:=fun b ps q=>⟨#[],by rw [ay (bp q hn),q];simp⟩
theorem Un.write (f:OV (H x))(he:e=x\/H e=some (.own x))(k:∀b u,b≠e->h.get? b=some u->h'.get? b=some u)(g:∃u,h'.get? e=some u):Un fs ex H (.aj x o) h h':=by
 have hx:∀b,H b=none->b≠x:=fun b n z=>by subst z;rw [n] at f;exact f
 have hb:∀b,H b=none->b≠e:=fun b n z=>by grind
 have hm:∀b u,H b=some u->¬ OV (some u)->b≠x:=fun b u q nm z=>by subst z;rw [q] at f;exact nm f
 refine⟨fun b u q n _ _=>k b u (hb b n) q,fun b u q n _ _=>⟨u.slots,k b u (hb b n) q⟩,fun b u q n _=>by rw [ay (hx b n)];exact n,fun b u q _=>?_,
  fun b xs q=>by rw [ay (hm b _ q fun z=>z)];exact q,fun b u xs q=>by rw [ay (hm b _ q fun z=>z)];exact q,fun b ps q=>⟨#[],by rw [ay (hm b _ q fun z=>z),q];simp⟩⟩
 by_cases d:b=e
 ·subst d;exact g
 ·exact⟨u,k b u d q⟩
end
def Oj (h:Heap)(H:Hp):List Addr:=(List.range h.objs.size).filter fun a=>(H a).isSome
def xW (h:Heap)(H:Hp):Heap:=PySem.W.hideAll h (Oj h H)
theorem Fl (h:Heap)(H:Hp):(xW h H).objs.size=h.objs.size:=PySem.W.hideAll_size _ _
theorem Hw {h:Heap}{H:Hp}{b:Addr}{o:Obj}(e:h.get? b=some o)(n:H b=none):(xW h H).get? b=some o:=
 PySem.W.hideAll_get _ e fun hm=>by
  have q:=(zal.mp hm).2
  rw [n] at q;simp at q
theorem KO {h:Heap}{H:Hp}{b:Addr}{o:Obj}(e:(xW h H).get? b=some o):h.get? b=some o/\H b=none:=by
 have j:=PySem.W.of_hideAll (Oj h H) e
 refine⟨j,?_⟩
 cases q:H b with
 |none=>rfl
 |some x =>
  have hm:b∈Oj h H:=List.mem_filter.mpr ⟨List.mem_range.mpr (.aS j),by simp [q]⟩
  have z:(xW h H).get? b=none:=PySem.W.hideAll_none (Oj h H) hm
  rw [z] at e;cases e
structure Mod (K:.l)(mg:.H)(base:Heap):Prop where
 kin:K.In base
 glob:base.Ns mainGlobals mg
 blt:∃mb,base.Ns builtinsNs mb/\∀x:Str,x≠"__name__"->mb x=bootBuiltins x
 nolimit:base.NoLimit
structure Cx where
 prog:Program
 w:World
 K:PySem.W.Frag
 mg:Str->Option Value
 base:Heap
 A:Around
 N:List Str
 Y8:Shared
 Y9:Hp
 env:Env
 outer:List Env
 stack:List Env
 ex:List Addr
 fn:Str->Bool
 calm:Bool
 pn:List (Addr×Obj)
 xe:Value->Shared->Prop
def wt (l:.eW):List Addr:=l.filterMap (·.frame)
abbrev Cx.fs (X:Cx):List Addr:=wt X.outer
noncomputable def Oz (sc:Scope)(x:Str):Prop:=sc.names.lookup x=some .local\/sc.names.lookup x=some .cell\/sc.names.lookup x=some .free
noncomputable def Loc (sc:Scope)(x:Str):Prop:=sc.names.lookup x=some .local\/sc.names.lookup x=some .cell
noncomputable def Look (env:Env)(h:Heap)(m:.H)(x:Str)(u:Value):Prop:=
 (env.kindOf x=some .local/\m x=some u)\/((env.kindOf x=some .cell\/env.kindOf x=some .free)/\∃c,env.cells.lookup x=some c/\h.IsCell c (some u))
structure Cx.Ok (X:Cx):Prop where
 mod:Mod X.K X.mg X.base
 kind:X.env.scope.kind=.function
 glob:X.env.globals=mainGlobals
 blt:X.env.builtins=builtinsNs
 above:X.Y8.heap.objs.size≤X.env.locals
 inj:∀x y c,X.env.cells.lookup x=some c->X.env.cells.lookup y=some c->x=y
 has:∀x,(X.env.kindOf x=some .cell\/X.env.kindOf x=some .free)->∃c,X.env.cells.lookup x=some c
 cab:∀x c,X.fn x=true->X.env.cells.lookup x=some c->X.Y8.heap.objs.size≤c
 hd:X.calm=true->X.A.handled=none
 frames:X.A.frames=some X.stack
 stk:X.stack=X.outer\/(X.stack=X.env::X.outer/\X.env.frame=some X.env.locals)
 exf:∀b∈X.ex,b≠X.env.locals/\∀x c,X.env.cells.lookup x=some c->c≠b
 bs:∀b o,X.base.get? b=some o->X.Y8.heap.get? b=some o/\X.Y9 b=none
 bsz:X.base.objs.size≤X.Y8.heap.objs.size
 noex:∀b o,X.base.get? b=some o->b∉X.ex
 exfs:∀b∈X.ex,b∉X.fs
 funs:X.Y8.heap.FunFrames X.base X.outer
 frf:∀b∈X.fs,X.Y9 b=none
structure Inv (X:Cx)(pins:.v)(σ:List (Option V))(H:Hp)(s:Shared):Prop where
 ok:X.Ok
 os:s.os=X.Y8.os
 bare:AllBare s.gens
 base:Un X.fs X.ex X.Y9 H X.Y8.heap s.heap
 loc:∃m,s.heap.Ns X.env.locals m/\∀(i:Nat) (x:Str) (v:V),X.N[i]? = some x->σ[i]? = some .di->Oz X.env.scope x->∃u,RelV v u/\Look X.env s.heap m x u
 cell:∀x c,X.env.cells.lookup x=some c->∃v,s.heap.IsCell c v
 free:H X.env.locals=none
 freeC:∀x c,X.env.cells.lookup x=some c->H c=none
 pin:∀p∈X.pn++pins,s.heap.get? p.1=some p.2/\H p.1=none/\p.1≠X.env.locals/\p.1∉X.fs/\∀v,p.2.data≠.cell v
 hok:lW X.prog X.w H s.heap
 len:σ.length=X.N.length
section
variable {X:Cx}{pins:.v}{σ:List (Option V)}{H H':Hp}{s:Shared}{h':Heap}
theorem Cx.Ok.nofr (ok:X.Ok){b:Addr}{o:Obj}(e:X.base.get? b=some o):b∉X.fs:=fun hb=>by
 have:=(ok.funs.mem hb).1
 rw [e] at this;cases this
theorem Inv.bs (I:.u):∀b o,X.base.get? b=some o->s.heap.get? b=some o/\H b=none:=fun b o e =>
 ⟨I.base.keep b o (I.ok.bs b o e).1 (I.ok.bs b o e).2 (I.ok.nofr e) (I.ok.noex b o e),I.base.free b o (I.ok.bs b o e).1 (I.ok.bs b o e).2 (I.ok.noex b o e)⟩
theorem Inv.bk (I:.u):∀b o,X.base.get? b=some o->s.heap.get? b=some o:=fun b o e=>(I.bs b o e).1
theorem Inv.mod (I:.u):Mod X.K X.mg X.base:=I.ok.mod
theorem Inv.kIn (I:.u):X.K.In s.heap:=I.ok.mod.kin.keeps I.bk
theorem Inv.lt (I:.u):X.env.locals<s.heap.objs.size:=let ⟨_,hn,_⟩:=I.loc;hn.lt
theorem Inv.sz (I:.u):X.Y8.heap.objs.size≤s.heap.objs.size:=zaG I.ok.above (zb5 I.lt)
theorem Inv.nofs (I:.u){a:Addr}(h:s.heap.objs.size≤a):a∉X.fs:=fun hb=>by
 obtain⟨_,o,ho,_⟩:=I.ok.funs.mem hb
 exact absurd (zaw (.aS ho) (zaG I.sz h)) (zaP _)
theorem Inv.cne (I:.u):∀x c,X.env.cells.lookup x=some c->c≠X.env.locals:=fun x c e z=>by
 obtain⟨v,o,ho,hd⟩:=I.cell x c e
 obtain⟨m,⟨o',es,ep,f,j,_⟩,_⟩:=I.loc
 rw [z,f] at ho;cases ho;rw [j] at hd;cases hd
theorem Inv.funs (I:.u):s.heap.FunFrames X.base X.outer:=by
 have all:∀(l:.eW),(∀b∈wt l,b∈X.fs)->X.Y8.heap.FunFrames X.base l->s.heap.FunFrames X.base l:=by
  intro l
  induction l with
  |nil=>intro _ _;trivial
  |cons env r A =>
   intro hs hl
   obtain⟨hk,⟨L,o,hf,hn,ho,hd⟩,hr⟩:=hl
   have d:=hs L (by unfold wt;rw [List.filterMap_cons,hf];exact List.mem_cons_self)
   obtain⟨sl,e⟩:=I.base.slot L o ho (I.ok.frf L d) d fun z=>I.ok.exfs L z d
   exact⟨hk,⟨L,_,hf,hn,e,hd⟩,A (fun b hb=>hs b (by unfold wt;rw [List.filterMap_cons,hf];exact List.mem_cons_of_mem _ hb)) hr⟩
 exact all X.outer (fun _ hb=>hb) I.ok.funs
theorem Inv.stack (I:.u):s.heap.FunFrames X.base X.stack:=by
 rcases I.ok.stk with e | ⟨e,hf⟩
 ·rw [e];exact I.funs
 ·rw [e]
  obtain⟨m,hn,_⟩:=I.loc
  refine .cons (by rw [I.ok.kind];decide) hf hn ?_ I.funs
  exact Heap.get?_none_of_le (zaG I.ok.bsz I.ok.above)
theorem Inv.stkSub (I:.u):∀b∈wt X.stack,b∈X.env.locals::X.fs:=fun b hb=>by
 rcases I.ok.stk with e | ⟨e,hf⟩
 ·rw [e] at hb;exact zae _ hb
 ·rw [e] at hb
  unfold wt at hb
  rw [List.filterMap_cons,hf] at hb
  exact hb
theorem Inv.stkFree (I:.u):∀b∈wt X.stack,H b=none:=fun b hb=>by
 rcases zao.mp (I.stkSub b hb) with e | hb
 ·rw [e];exact I.free
 ·obtain⟨_,o,ho,_⟩:=I.ok.funs.mem hb
  exact I.base.free b o ho (I.ok.frf b hb) fun z=>I.ok.exfs b z hb
theorem Inv.step {g':Array GenState}{t':Nat}{d':Drawn}{ch:.af}(I:.u)
  (a:∀b∈ch,.gA/\b≠X.env.locals/\(∀x c,X.env.cells.lookup x=some c->c≠b)/\∀p∈X.pn++pins,p.1≠b)
  (keep:∀b o,b≠X.env.locals->b∉X.fs->b∉ch->s.heap.get? b=some o->H b=none->h'.get? b=some o)
  (slot:∀b o,b≠X.env.locals->b∈X.fs->b∉ch->s.heap.get? b=some o->H b=none->∃sl,h'.get? b=some { o with slots:=sl }) (free:∀b o,b∉ch->s.heap.get? b=some o->H b=none->H' b=none)
  (there:∀b o,b∉ch->s.heap.get? b=some o->∃o',h'.get? b=some o')
  (tups:∀b xs,H b=some .fv->H' b=some .fv) (frzs:∀b o u,H b=some (.frz o u)->H' b=some (.frz o u)) (tbls:∀b ps,H b=some (.tbl ps)->∃more,H' b=some (.tbl (ps++more)))
  (ns:∀m,s.heap.Ns X.env.locals m->h'.Ns X.env.locals m) (hok:lW X.prog X.w H' h') (M:AllBare g'):
  Inv X pins σ H' { s with heap:=h',gens:=g',drawn:=d',toks:=t' }:=by
 have j:∀b o,X.Y8.heap.get? b=some o->b≠X.env.locals:=fun b o e=>zat (zaw .aF I.ok.above)
 have h:∀b o,X.Y8.heap.get? b=some o->b∉X.ex->b∉ch:=fun b o e hx hb=>by
  rcases (a b hb).1 with z | z
  ·exact hx z
  ·exact absurd (zaw .aF z) (zaP _)
 have cellK:∀x c,X.env.cells.lookup x=some c->∀v,s.heap.IsCell c v->h'.IsCell c v:=fun x c e v G=>by
  obtain⟨o,ho,hd⟩:=G
  have f:=fun z=>(a c z).2.2.1 x c e rfl
  by_cases U:c∈X.fs
  ·obtain⟨sl,q⟩:=slot c o (I.cne x c e) U f ho (I.freeC x c e)
   exact⟨_,q,hd⟩
  ·exact⟨o,keep c o (I.cne x c e) U f ho (I.freeC x c e),hd⟩
 refine⟨I.ok,I.os,M,⟨fun b o e n hb hx=>?_,fun b o e n hb hx=>?_,fun b o e n hx=>?_,fun b o e hx=>?_,fun b xs e=>tups b xs (I.base.tups b xs e),fun b o xs e=>frzs b o xs (I.base.frzs b o xs e),fun b ps e=>?_⟩,?_,fun x c e=>?_,?_,fun x c e=>?_,fun p hp=>?_,hok,I.len⟩
 ·exact keep b o (j b o e) hb (h b o e hx) (I.base.keep b o e n hb hx) (I.base.free b o e n hx)
 ·obtain⟨sl,e1⟩:=I.base.slot b o e n hb hx
  obtain⟨t,e2⟩:=slot b _ (j b o e) hb (h b o e hx) e1 (I.base.free b o e n hx)
  exact⟨t,e2⟩
 ·obtain⟨o',e1⟩:=I.base.there b o e hx
  exact free b o' (h b o e hx) e1 (I.base.free b o e n hx)
 ·obtain⟨o',e1⟩:=I.base.there b o e hx
  exact there b o' (h b o e hx) e1
 ·obtain⟨g,e1⟩:=I.base.tbls b ps e
  obtain⟨P,e2⟩:=tbls b _ e1
  exact⟨g++P,by rw [e2,Array.append_assoc]⟩
 ·obtain⟨m,hn,hl⟩:=I.loc
  refine⟨m,ns m hn,fun i x v e1 e2 e3=>?_⟩
  obtain⟨u,r,l⟩:=hl i x v e1 e2 e3
  refine⟨u,r,?_⟩
  rcases l with l | ⟨k,c,e,z⟩
  ·exact .inl l
  ·exact .bg ⟨k,c,e,cellK x c e _ z⟩
 ·obtain⟨v,z⟩:=I.cell x c e
  exact⟨v,cellK x c e v z⟩
 ·obtain⟨m,⟨o,_,_,ho,_⟩,_⟩:=I.loc
  exact free _ o (fun z=>(a _ z).2.1 rfl) ho I.free
 ·obtain⟨v,o,ho,hd⟩:=I.cell x c e
  exact free c o (fun z=>(a c z).2.2.1 x c e rfl) ho (I.freeC x c e)
 ·obtain⟨e,n,ne,C,d⟩:=I.pin p hp
  have f:=fun z=>(a p.1 z).2.2.2 p hp rfl
  exact⟨keep p.1 p.2 ne C f e n,free p.1 p.2 f e n,ne,C,d⟩
theorem Inv.un {t':Nat}(I:.u)(u:Un X.fs [] H H' s.heap h')(hok:lW X.prog X.w H' h'):Inv X pins σ H' { s with heap:=h',toks:=t' }:=by
 obtain⟨m,⟨o,es,ep,ho,r⟩,_⟩:=id I.loc
 obtain⟨sl,d⟩:=u.any ho I.free .h
 exact I.step (ch:=[]) (fun _ z=>nomatch z) (fun b o _ hb _ e n=>u.keep b o e n hb .h) (fun b o _ hb _ e n=>u.slot b o e n hb .h) (fun b o _ e n=>u.free b o e n .h) (fun b o _ e=>u.there b o e .h) u.tups u.frzs u.tbls (fun Q hm=>by
  obtain⟨o',g,i,f,B⟩:=hm
  rw [ho] at f;cases f
  exact⟨_,g,i,d,B⟩) hok I.bare
theorem Inv.call {g':Array GenState}{t':Nat}{d':Drawn}{ch:.af}(I:.u)(u:Un (wt X.stack) ch H H' s.heap h')(hok:lW X.prog X.w H' h')(M:AllBare g')
  (a:∀b∈ch,.gA/\b≠X.env.locals/\(∀x c,X.env.cells.lookup x=some c->c≠b)/\∀p∈X.pn++pins,p.1≠b):
  Inv X pins σ H' { s with heap:=h',gens:=g',drawn:=d',toks:=t' }:=by
 obtain⟨m,⟨o,es,ep,ho,r⟩,_⟩:=id I.loc
 obtain⟨sl,d⟩:=u.any ho I.free fun z=>(a _ z).2.1 rfl
 exact I.step a (fun b o d hb U e n=>u.keep b o e n (fun z=>(zao.mp (I.stkSub b z)).elim d hb) U) (fun b o _ _ U e n=>u.any e n U) (fun b o U e n=>u.free b o e n U) (fun b o U e=>u.there b o e U) u.tups u.frzs u.tbls (fun Q hm=>by
  obtain⟨o',g,i,f,B⟩:=hm
  rw [ho] at f;cases f
  exact⟨_,g,i,d,B⟩) hok M
theorem Inv.turned {t':Nat}{it:Addr}(I:.u)(k:∀b o,b≠it->s.heap.get? b=some o->h'.get? b=some o)(hn:H it=none)(d:it≠X.env.locals)
  (h1:it∈X.ex\/X.Y8.heap.objs.size≤it) (h2:∀x c,X.env.cells.lookup x=some c->c≠it) (W:∀p∈X.pn++pins,p.1≠it):Inv X pins σ H { s with heap:=h',toks:=t' }:=by
 have a:∀b u,H b=some u->b≠it:=fun b u e z=>by rw [z,hn] at e;cases e
 refine I.step (ch:=[it]) (fun b hb=>?_) (fun b o _ _ U e _=>k b o (fun z=>U (by simp [z])) e) (fun b o _ _ U e _=>⟨o.slots,k b o (fun z=>U (by simp [z])) e⟩) (fun _ _ _ _ n=>n)
  (fun b o U e=>⟨o,k b o (fun z=>U (by simp [z])) e⟩) (fun _ _ e=>e) (fun _ _ _ e=>e) (fun b ps e=>⟨#[],by rw [e];simp⟩) (fun m hm=>?_) (fun b u e=>?_) I.bare
 ·have e:b=it:=by simpa using hb
  subst e
  exact⟨h1,d,h2,W⟩
 ·obtain⟨o,es,ep,ho,r⟩:=hm
  exact⟨o,es,ep,k _ o (.a2 d) ho,r⟩
 ·refine (I.hok b u e).stay (fun c v U q=>k c v ?_ q) (fun _ q=>q) fun _ _ q=>q
  rcases U with z | z
  ·rw [z];exact a b u e
  ·exact a c _ z
theorem Inv.tok (I:.u)(t:Nat):Inv X pins σ H { s with toks:=t }:=I.un Un.refl I.hok
theorem Inv.kept {t':Nat}(I:.u)(k:∀b u,s.heap.get? b=some u->h'.get? b=some u):Inv X pins σ H { s with heap:=h',toks:=t' }:=I.un (Un.kept k) (I.hok.kept k)
theorem Inv.laid {a:Addr}{o:HO}{t':Nat}(I:.u)(k:∀b u,s.heap.get? b=some u->h'.get? b=some u)(hp:s.heap.objs.size≤a)(new:dE X.prog X.w (.aj a o) h' a o):
  Inv X pins σ (.aj a o) { s with heap:=h',toks:=t' }:=I.un (Un.laid k hp (I.hok.fresh hp)) (I.hok.laid k hp new)
theorem Inv.write {x e:Addr}{o:HO}{t':Nat}(I:.u)(f:OV (H x))(he:e=x\/H e=some (.own x))(k:∀b u,b≠e->s.heap.get? b=some u->h'.get? b=some u)(g:∃u,h'.get? e=some u)
  (new:dE X.prog X.w (.aj x o) h' x o):Inv X pins σ (.aj x o) { s with heap:=h',toks:=t' }:=I.un (Un.write f he k g) (I.hok.write f he k g new)
theorem Inv.pins_of {a:.v}(I:.u)(h:∀p∈a,s.heap.get? p.1=some p.2/\H p.1=none/\p.1≠X.env.locals/\p.1∉X.fs/\∀v,p.2.data≠.cell v):Inv X a σ H s:=
 ⟨I.ok,I.os,I.bare,I.base,I.loc,I.cell,I.free,I.freeC,fun p hp=>(zaz.mp hp).elim (fun z=>I.pin p (zaH _ z)) (h p),I.hok,I.len⟩
theorem AH {N:.V}(J:N.Nodup){i j:Nat}{x:Str}(a:N[i]? = some x)(b:N[j]? = some x):i=j:=by
 obtain⟨h1,e1⟩:=zav.mp a
 obtain⟨h2,e2⟩:=zav.mp b
 exact (List.getElem_inj J).mp (e1.trans e2.symm)
theorem ng {M:Model}{A:Around}{E:.o}{i:Nat}{x:Str}{v:V}{u:Value}{Q:.dI}(I:.u)(J:.fC)(hi:X.N[i]? = some x)(hx:.e2)(r:RelV v u)
  (h:∀s',Inv X pins (σ.set i .di) H s'->(∃a,Heap.SameBut a s.heap s'.heap/\(a=X.env.locals\/X.env.cells.lookup x=some a))->Q () s') (hf:X.fn x=true\/X.env.scope.names.lookup x=some .local:=by first | exact .inl rfl | exact .inr rfl | assumption):wpAny M A (storeName X.env x u) Q E s:=by
 obtain⟨m,hn,hl⟩:=id I.loc
 have N:(X.env.scope.kind == .class||(X.env.scope.kind == .module&&X.env.locals != X.env.globals))=false:=by rw [I.ok.kind];rfl
 have L:i<σ.length:=by rw [I.len];exact (zav.mp hi).1
 have cne:=I.cne
 have tracked:∀{a:Addr} {h':Heap},(∃o,s.heap.get? a=some o/\H a=none)->Heap.SameBut a s.heap h'->lW X.prog X.w H h':=fun {a h'} ha hs b ob e=>by
  obtain⟨_,_,G⟩:=ha
  refine (I.hok b ob e).stay (fun c D U q=>(hs.2 c ?_).trans q) (fun _ q=>q) fun _ _ q=>q
  rintro rfl
  rcases U with rfl | U
  ·rw [G] at e;cases e
  ·rw [G] at U;cases U
 rcases hx with hk | hk
 ·refine wpAny_storeName_local hk hn (fun h' f hs=>?_) N
  obtain⟨Y,_,_,W,_⟩:=id hn
  refine h _ ⟨I.ok,I.os,I.bare,⟨fun b o e n hb hx=>?_,fun b o e n hb hx=>?_,I.base.free,fun b o e hx=>?_,I.base.tups,I.base.frzs,I.base.tbls⟩,⟨_,f,fun j y v' e1 e2 e3=>?_⟩,fun y c e=>?_,I.free,I.freeC,fun p hp=>?_,tracked ⟨Y,W,I.free⟩ hs,by simpa using I.len⟩ ⟨_,hs,.inl rfl⟩
  ·exact (hs.2 b (zat (zaw .aF I.ok.above))).trans (I.base.keep b o e n hb hx)
  ·obtain⟨sl,e1⟩:=I.base.slot b o e n hb hx
   exact⟨sl,(hs.2 b (zat (zaw .aF I.ok.above))).trans e1⟩
  ·obtain⟨o',e1⟩:=I.base.there b o e hx
   exact⟨o',(hs.2 b (zat (zaw .aF I.ok.above))).trans e1⟩
  ·by_cases S:j=i
   ·subst S
    rw [hi] at e1;cases e1
    rw [zam L] at e2
    cases e2
    exact⟨u,r,.inl ⟨hk,.h⟩⟩
   ·rw [zan (.a2 S)] at e2
    obtain⟨w,B,q⟩:=hl j y v' e1 e2 e3
    refine⟨w,B,?_⟩
    rcases q with ⟨k,e⟩ | ⟨k,c,e,z⟩
    ·refine .inl ⟨k,?_⟩
     have:y≠x:=fun e=>S (AH J e1 (e ▸ hi))
     simp [this,e]
    ·exact .bg ⟨k,c,e,z.sameBut hs (cne y c e)⟩
  ·obtain⟨D,z⟩:=I.cell y c e
   exact⟨D,z.sameBut hs (cne y c e)⟩
  ·obtain⟨e,n,ne,C,d⟩:=I.pin p hp
   exact⟨(hs.2 p.1 ne).trans e,n,ne,C,d⟩
 ·have t:X.fn x=true:=by
   rcases hf with z | z
   ·exact z
   ·rw [z] at hk;cases hk
  obtain⟨c,U⟩:=I.ok.has x (.inl hk)
  obtain⟨D,z⟩:=I.cell x c U
  refine wpAny_storeName_cell I.ok.kind hk U z (fun h' F hs=>?_)
  obtain⟨oc,O,P⟩:=id z
  refine h { s with heap:=h' } ⟨I.ok,I.os,I.bare,⟨fun b o e n hb hx=>?_,fun b o e n hb hx=>?_,I.base.free,fun b o e hx=>?_,I.base.tups,I.base.frzs,I.base.tbls⟩,⟨m,hn.sameBut hs (.a2 (cne x c U)),fun j y v' e1 e2 e3=>?_⟩,fun y g e=>?_,I.free,I.freeC,fun p hp=>?_,tracked ⟨oc,O,I.freeC x c U⟩ hs,by simpa using I.len⟩ ⟨c,hs,.inr U⟩
  ·exact (hs.2 b .gM).trans (I.base.keep b o e n hb hx)
  ·obtain⟨sl,e1⟩:=I.base.slot b o e n hb hx
   exact⟨sl,(hs.2 b .gM).trans e1⟩
  ·obtain⟨o',e1⟩:=I.base.there b o e hx
   exact⟨o',(hs.2 b .gM).trans e1⟩
  ·by_cases S:j=i
   ·subst S
    rw [hi] at e1;cases e1
    rw [zam L] at e2
    cases e2
    exact⟨u,r,.inr ⟨.inl hk,c,U,F⟩⟩
   ·rw [zan (.a2 S)] at e2
    obtain⟨w,B,q⟩:=hl j y v' e1 e2 e3
    refine⟨w,B,?_⟩
    rcases q with q | ⟨k,g,e,Z⟩
    ·exact .inl q
    ·refine .inr ⟨k,g,e,Z.sameBut hs ?_⟩
     rintro rfl
     exact S (AH J e1 (I.ok.inj _ _ _ e U ▸ hi))
  ·by_cases l:g=c
   ·subst l;exact⟨_,F⟩
   ·obtain⟨K,R⟩:=I.cell y g e
    exact⟨K,R.sameBut hs l⟩
  ·obtain⟨e,n,ne,C,d⟩:=I.pin p hp
   refine⟨(hs.2 p.1 ?_).trans e,n,ne,C,d⟩
   intro q
   rw [q,O] at e
   have T:=zaT e
   exact d D (by rw [<- T];exact P)
theorem pC {M:Model}{A:Around}{E:.o}{i:Nat}{x:Str}{v:V}{u:Value}{Q:.dI}(I:.u)(J:.fC)(hi:X.N[i]? = some x)(hx:.e2)(r:RelV v u)
  (h:∀s',Inv X pins (σ.set i .di) H s'->Q () s') (hf:X.fn x=true\/X.env.scope.names.lookup x=some .local:=by first | exact .inl rfl | exact .inr rfl | assumption):wpAny M A (storeName X.env x u) Q E s:=
 ng I J hi hx r (fun s' l _=>h s' l) hf
theorem Inv.call' {s':Shared}{ch:.af}(I:.u)(ho:s'.os=s.os)(u:Un (wt X.stack) ch H H' s.heap s'.heap)(hok:lW X.prog X.w H' s'.heap)(M:AllBare s'.gens)
  (a:∀b∈ch,.gA/\b≠X.env.locals/\(∀x c,X.env.cells.lookup x=some c->c≠b)/\∀p∈X.pn++pins,p.1≠b):Inv X pins σ H' s':=by
 obtain⟨h',g',d',t',o'⟩:=s'
 have e:=ho
 subst e
 exact I.call u hok M a
end
abbrev XK:=Value->Option Addr->Hp->Prop
abbrev St:=List (Option V)
abbrev VK:=V->Hp->Prop
abbrev TE:=St->Hp->VK->Prop
abbrev TT:=St->Hp->(Bool->Hp->Prop)->Prop
abbrev TA:=St->Hp->(List V->Hp->Prop)->Prop
structure Ends where
 nx:St->Hp->Prop
 rt:VK
 bk:St->Hp->Prop:=fun _ _=>False
 ct:St->Hp->Prop:=fun _ _=>False
abbrev TS:=Ends->St->Hp->Prop
noncomputable def EP (X:Cx)(pins:.v)(σ:St)(Q:VK)(u:Value)(s':Shared):Prop:=∃v H',Inv X pins σ H' s'/\RelV v u/\Q v H'
noncomputable def TP (X:Cx)(pins:.v)(σ:St)(Q:Bool->Hp->Prop)(b:Bool)(s':Shared):Prop:=∃H',Inv X pins σ H' s'/\Q b H'
noncomputable def AP (X:Cx)(pins:.v)(σ:St)(Q:List V->Hp->Prop)(us:.S)(s':Shared):Prop:=∃vs H',Inv X pins σ H' s'/\Vals vs us/\Q vs H'
noncomputable def SP (X:Cx)(pins:.v)(D:Ends)(f:Flow)(s':Shared):Prop:=
 match f with
 | .next=>∃σ' H',Inv X pins σ' H' s'/\D.nx σ' H'
 | .brk=>∃σ' H',Inv X pins σ' H' s'/\D.bk σ' H'
 | .cont=>∃σ' H',Inv X pins σ' H' s'/\D.ct σ' H'
 | .ret u=>∃v σ' H',Inv X pins σ' H' s'/\RelV v u/\D.rt v H'
noncomputable def PE (X:Cx)(e:Expr)(t:TE):Prop:=
 ∀(pins:.v) (s:Shared) (σ:St) (H:Hp) (Q:VK),Inv X pins σ H s->t σ H Q->wpAny .t X.A (.Z e) .cU X.xe s
noncomputable def PT (X:Cx)(e:Expr)(t:TT):Prop:=
 ∀(pins:.v) (s:Shared) (σ:St) (H:Hp) (Q:Bool->Hp->Prop),Inv X pins σ H s->t σ H Q->wpAny .t X.A (isTrue e X.env (.Z e)) (TP X pins σ Q) X.xe s
noncomputable def PW (X:Cx)(e:Expr)(t:TT):Prop:=
 ∀(whole:Sem Value) (pins:.v) (s:Shared) (σ:St) (H:Hp) (Q:Bool->Hp->Prop),Inv X pins σ H s->t σ H Q->wpAny .t X.A (isTrue e X.env whole) (TP X pins σ Q) X.xe s
theorem PW.pt {X:Cx}{e:Expr}{t:TT}(h:PW X e t):PT X e t:=h _
noncomputable def PA (X:Cx)(es:.av)(t:TA):Prop:=
 ∀(pos:Pos) (pins:.v) (s:Shared) (σ:St) (H:Hp) (Q:List V->Hp->Prop),Inv X pins σ H s->t σ H Q->wpAny .t X.A (spliced (backTo pos .br)) (AP X pins σ Q) X.xe s
noncomputable def PS (X:Cx)(st:Stmt)(t:TS):Prop:=
 ∀(pins:.v) (s:Shared) (σ:St) (H:Hp) (D:Ends),Inv X pins σ H s->t D σ H->wpAny .t X.A (exec st X.env) (SP X pins D) X.xe s
noncomputable def mY (X:Cx)(st:.bB)(t:TS):Prop:=
 ∀(pins:.v) (s:Shared) (σ:St) (H:Hp) (D:Ends),Inv X pins σ H s->t D σ H->wpAny .t X.A (execs st X.env) (SP X pins D) X.xe s
theorem df {α:Type}{t:Sem α}{Q d:α->Shared->Prop}{M:Model}{A:Around}{E:.o}{s:Shared}(h:wpAny M A t Q E s)(B:∀a s,Q a s->d a s):wpAny M A t d E s:=wpAny_mono h B fun _ _ x=>x
section
variable {X:Cx}
def vN (i:Nat):TE:=fun σ H Q=>∃v,σ[i]? = some .di/\Q v H
def tC (v:V):TE:=fun _ H Q=>Q v H
theorem NM {i:Nat}{x:Str}{pos:Pos}(J:X.N[i]? = some x)(N:Oz X.env.scope x)(hd:.M=false:=by decide)(p:(x == ("__classdict__" : Str))=false:=by decide):PE X .cI (vN i):=by
 intro pins s σ H Q I h
 obtain⟨v,e,h⟩:=h
 obtain⟨m,hn,hl⟩:=I.loc
 obtain⟨u,r,l⟩:=hl i x v J e N
 have fin:EP X pins σ Q u s:=⟨v,H,I,r,h⟩
 rcases l with ⟨hk,hm⟩ | ⟨hk,c,U,f⟩
 ·exact wpAny_Name (wpAny_loadName_local I.ok.kind hk hn hm fin) hd
 ·rcases hk with hk | hk
  ·exact wpAny_Name (wpAny_loadName_cell I.ok.kind hk U f fin) hd
  ·exact wpAny_Name (wpAny_loadName_free I.ok.kind hk U f fin p) hd
theorem NF {i j pos}:PE X (.bf .eA) (tC .eA):=fun _ _ _ H _ I h=>wpAny_Constant_int ⟨.int i,H,.g6,.al,h⟩
theorem Qn {b j pos}:PE X (.bf (.bool b)) (tC (.bl b)):=fun _ _ _ H _ I h=>Constant_bool ⟨.bl b,H,I,rfl,h⟩
theorem NG {j pos}:PE X (.Constant .none j pos) (tC .non):=fun _ _ _ H _ I h=>Constant_none ⟨.non,H,I,rfl,h⟩
theorem NK {x j pos}:PE X (.bf .fG) (tC .fG):=fun _ _ _ H _ I h=>Calls.Constant_str ⟨.str x,H,.g6,.al,h⟩
def Gl (X:Cx)(x:Str):Prop:=X.env.kindOf x=some .globalImplicit
theorem oW {E:.o}{pins:.v}{s:Shared}{σ:St}{H:Hp}{x:Str}{u:Value}{pos:Pos}{Q:.o}(I:.u)(M:Gl X x)(hm:X.mg x=some u)(h:Q u s)
  (hd:.M=false:=by decide):wpAny .t X.A (.Z (.Name x pos)) Q E s:=
 Calls.Name_function_global I.ok.kind M (Calls.loadGlobal_global (by rw [I.ok.glob];exact I.mod.glob.keeps I.bk) hm h) hd
theorem my {E:.o}{pins:.v}{s:Shared}{σ:St}{H:Hp}{x:Str}{u:Value}{pos:Pos}{Q:.o}(I:.u)(M:Gl X x)(hm:X.mg x=none)(N:bootBuiltins x=some u)(h:Q u s)
  (hn:x≠"__name__" := by decide) (hd:.M=false:=by decide):wpAny .t X.A (.Z (.Name x pos)) Q E s:=by
 obtain⟨mb,h1,h2⟩:=I.mod.blt
 exact Calls.Name_function_global I.ok.kind M (Calls.loadGlobal_builtin (by rw [I.ok.glob];exact I.mod.glob.keeps I.bk) hm (by rw [I.ok.blt];exact h1.keeps I.bk) ((h2 x hn).trans N) h) hd
theorem ph {x:Str}{v:V}{u:Value}{pos:Pos}(M:Gl X x)(hm:X.mg x=some u)(r:RelV v u)(hd:.M=false:=by decide):PE X .cI (tC v):=
 fun _ _ _ H _ I h=>oW I M hm ⟨v,H,I,r,h⟩ hd
theorem K4 {x:Str}{v:V}{u:Value}{pos:Pos}(M:Gl X x)(hm:X.mg x=none)(N:bootBuiltins x=some u)(r:RelV v u)(hn:x≠"__name__" := by decide)(hd:.M=false:=by decide):PE X .cI (tC v):=
 fun _ _ _ H _ I h=>my I M hm N ⟨v,H,I,r,h⟩ hn hd
variable {a b:Expr}{ta tb:TE}{pos:Pos}
noncomputable def PC (X:Cx)(i:CmpOp)(a b:Expr)(t:TE):Prop:=
 ∀(pins:.v) (s:Shared) (σ:St) (H:Hp) (Q:VK),Inv X pins σ H s->t σ H Q ->
  wpAny .t X.A (.Z a) (fun v g=>wpAny .t X.A (.Z b) (fun u d=>wpAny .t X.A (compareOp i v u) .cU X.xe d) X.xe g) X.xe s
def tB (t:TE):TT:=fun σ H Q=>t σ H fun x H1=>∃c,x=.bl c/\Q c H1
theorem NV {i:CmpOp}{t:TE}(h:PC X i a b t)(h1:behindInMarks i b=false:=by first | exact l _ .f .f | rfl):PT X .gK (tB t):=by
 intro pins s σ H Q I L
 refine wpAny_isTrue_Compare1 (df (h pins s σ H _ I L) fun v s1 h1=>df h1 fun u s2 h2=>df h2 fun c w .ay=>?_) h1
 obtain⟨d,rfl,q⟩:=q1
 cases r1
 exact wpAny_truthy_bool ⟨H1,O,q⟩
variable {tA tB':TT}{rest:.av}
noncomputable def S7 (t u:TT):TT:=fun σ H Q=>t σ H fun c H1=>if c=true then u σ H1 Q else Q false H1
def Ux (t u:TT):TT:=fun σ H Q=>t σ H fun c H1=>if c=true then Q true H1 else u σ H1 Q
def Te (t:TT):TT:=fun σ H Q=>t σ H fun c H1=>Q (!c) H1
theorem Lg (ha:PT X a tA):PW X (.BoolOp .And [a] pos) tA:=by
 intro d pins s σ H Q I h
 refine isTrue_and (df (ha pins s σ H Q I h) fun c s1 e=>?_)
 cases c with
 |true=>exact isTrue_and_nil e
 |false=>exact e
theorem NY (ha:PT X a tA):PW X (.BoolOp .Or [a] pos) tA:=by
 intro d pins s σ H Q I h
 refine isTrue_or (df (ha pins s σ H Q I h) fun c s1 e=>?_)
 cases c with
 |false=>exact isTrue_or_nil e
 |true=>exact e
theorem NX (ha:PT X a tA)(hb:PW X .fI tB'):PW X .eV (S7 tA tB'):=by
 intro d pins s σ H Q I h
 refine isTrue_and (df .bb fun c s1 ⟨H1,O,q1⟩=>?_)
 cases c with
 |true=>exact hb d pins s1 σ H1 Q O q1
 |false=>exact⟨H1,O,q1⟩
theorem Qt (ha:PT X a tA)(hb:PW X (.BoolOp .Or (b::rest) pos) tB'):PW X (.BoolOp .Or (a::b::rest) pos) (Ux tA tB'):=by
 intro d pins s σ H Q I h
 refine isTrue_or (df .bb fun c s1 ⟨H1,O,q1⟩=>?_)
 cases c with
 |true=>exact⟨H1,O,q1⟩
 |false=>exact hb d pins s1 σ H1 Q O q1
theorem NW (ha:PT X a tA):PT X (.UnaryOp .Not a pos) (Te tA):=by
 intro pins s σ H Q I h
 exact isTrue_not .bb
noncomputable def QK (ta tb:TE):TE:=fun σ H Q=>ta σ H fun x H1=>∃c,x=.bl c/\if c=true then tb σ H1 Q else Q .U H1
def QT (ta:TE):TE:=fun σ H Q=>ta σ H fun x H1=>∃c,x=.bl c/\Q (.bl (!c)) H1
theorem NI {op}{t:TE}(h:PE X a t):PE X (.BoolOp op [a] pos) t:=fun pins s σ H Q I L=>BoolOp_one (h pins s σ H Q I L)
theorem NB (ha:.gt)(hb:PE X .fI tb):PE X .eV (QK ta tb):=by
 intro pins s σ H Q I h
 refine BoolOp_and (df .bb fun v s1 .ay=>?_)
 obtain⟨c,rfl,q1⟩:=q1
 cases r1
 refine wpAny_truthy_bool ?_
 cases c with
 |true=>exact hb pins s1 σ H1 Q O q1
 |false=>exact⟨.bl false,H1,O,rfl,q1⟩
theorem NH (ha:.gt):PE X (.UnaryOp .Not a pos) (QT ta):=by
 intro pins s σ H Q I h
 refine UnaryOp_ (df .bb fun v s1 .ay=>?_)
 obtain⟨c,rfl,q1⟩:=q1
 cases r1
 exact not_of (wpAny_truthy_bool ⟨.bl (!c),H1,O,rfl,q1⟩)
noncomputable def Uv (t:TT)(ta tb:TE):TE:=fun σ H Q=>t σ H fun c H1=>if c=true then ta σ H1 Q else tb σ H1 Q
theorem ID {c:Expr}(U:PT X c tA)(ha:.gt)(hb:PE X b tb):PE X (.IfExp c a b pos) (Uv tA ta tb):=by
 intro pins s σ H Q I h
 refine wpAny_IfExp (df (U pins s σ H _ I h) fun d s1 ⟨H1,O,q1⟩=>?_)
 cases d with
 |true=>exact ha pins s1 σ H1 Q O q1
 |false=>exact hb pins s1 σ H1 Q O q1
end
noncomputable def gE (K:.l)(H:Hp)(a:Addr)(xs:List V):Prop:=
 Rd H a .eJ \/
  ∃(o:Obj) (G:.cv) (n:Nat),K.lookup a=some o/\o.cls=.type "list"/\o.dict=none/\o.data=.seq G n/\G.size≤sizeLine/\Vals xs G.toList
noncomputable def nv (K:.l)(H:Hp)(a:Addr)(xs:List V):Prop:=
 Rd H a .fv \/
  ∃(o:Obj) (G:.cv) (n:Nat),K.lookup a=some o/\o.cls=.type "tuple"/\o.data=.seq G n/\G.size≤sizeLine/\Vals xs G.toList
noncomputable def R7:Value->Option V
 | .none=>some .non
 | .bool b=>some (.bl b)
 | .int i _=>some .eA
 | .str x _=>some .fG
 | .bytes b _=>some (.byt b)
 | .float b _=>some (.flt b)
 | .ref a=>some (.c a)
 | .type n=>some (.ty n)
 |_=>none
theorem RelV.abs {x:V}{u:Value}(r:RelV x u):R7 u=some x:=by
 cases x with
 |non=>cases r;rfl
 |bl _=>cases r;rfl
 |int _=>obtain⟨t,rfl⟩:=r;rfl
 |str _=>obtain⟨t,rfl⟩:=r;rfl
 |byt _=>obtain⟨t,rfl⟩:=r;rfl
 |flt _=>obtain⟨t,rfl⟩:=r;rfl
 |ref _=>cases r;rfl
 |ty _=>cases r;rfl
theorem RelV.inj {x y:V}{u:Value}(r:RelV x u)(q:RelV y u):x=y:=zaT (r.abs.symm.trans q.abs)
theorem Vals.inj:∀{xs ys:List V} {us:.S},Vals xs us->Vals ys us->xs=ys
 |_,_,_,.nil,.nil=>rfl
 |_,_,_,.cons r t,.cons B t'=>by rw [r.inj B,Vals.inj t t']
section
variable {X:Cx}{pins:.v}{σ:St}{H:Hp}{s:Shared}{a:Addr}{xs ys:List V}
theorem gE.of {K:.l}(h:H a=some .eJ):gE K H a xs:=.inl (.inl h)
theorem nv.of {K:.l}(h:H a=some .fv):nv K H a xs:=.inl (.inl h)
theorem Inv.list (I:.u)(h:gE X.K H a xs):∃G:List Value,Vals xs G/\PlainL s.heap a G.toArray/\xs.length≤sizeLine:=by
 rcases h with h | ⟨o,G,n,hk,U,hd,hs,hz,r⟩
 ·obtain⟨z,G,n,r,e⟩:=h.ok I.hok
  exact⟨G,r,⟨_,n,e,rfl,rfl,rfl⟩,z⟩
 ·refine⟨G.toList,r,⟨o,n,I.kIn a o hk,U,hd,by simpa using hs⟩,?_⟩
  have e:=r.length
  simp only [Array.length_toList] at e
  omega
theorem Inv.tuple (I:.u)(h:nv X.K H a xs):∃G:List Value,Vals xs G/\IsTup s.heap a G.toArray/\xs.length≤sizeLine:=by
 rcases h with h | ⟨o,G,n,hk,U,hs,hz,r⟩
 ·obtain⟨z,G,r,p⟩:=h.ok I.hok
  exact⟨G,r,p,z⟩
 ·refine⟨G.toList,r,⟨o,I.kIn a o hk,U,n,by simpa using hs⟩,?_⟩
  have e:=r.length
  simp only [Array.length_toList] at e
  omega
theorem Inv.list_inj (I:.u)(h:gE X.K H a xs)(h':gE X.K H a ys):xs=ys:=by
 obtain⟨G,r,⟨o,n,e,_,_,d⟩,_⟩:=I.list h
 obtain⟨its',B,⟨o',b,j,_,_,d'⟩,_⟩:=I.list h'
 rw [e] at j;cases j
 rw [d] at d'
 injection d' with E _
 have:G=its':=by simpa using congrArg Array.toList E
 subst this
 exact r.inj B
theorem Inv.tuple_inj (I:.u)(h:nv X.K H a xs)(h':nv X.K H a ys):xs=ys:=by
 obtain⟨G,r,⟨o,e,_,n,d⟩,_⟩:=I.tuple h
 obtain⟨its',B,⟨o',j,_,b,d'⟩,_⟩:=I.tuple h'
 rw [e] at j;cases j
 rw [d] at d'
 injection d' with E _
 have:G=its':=by simpa using congrArg Array.toList E
 subst this
 exact r.inj B
end
abbrev Cx.wish (X:Cx)(E:.o):Cx:={ X with xe:=E }
abbrev Cx.nox (X:Cx):Cx:=X.wish fun _ _=>False
theorem Cx.Ok.wish {X:Cx}(ok:X.Ok)(E:.o):(X.wish E).Ok:=
 ⟨ok.mod,ok.kind,ok.glob,ok.blt,ok.above,ok.inj,ok.has,ok.cab,ok.hd,ok.frames,ok.stk,ok.exf,ok.bs,ok.bsz,ok.noex,ok.exfs,ok.funs,ok.frf⟩
theorem Cx.Ok.unwish {X:Cx}{E:.o}(ok:(X.wish E).Ok):X.Ok:=
 ⟨ok.mod,ok.kind,ok.glob,ok.blt,ok.above,ok.inj,ok.has,ok.cab,ok.hd,ok.frames,ok.stk,ok.exf,ok.bs,ok.bsz,ok.noex,ok.exfs,ok.funs,ok.frf⟩
section
variable {X:Cx}{pins:.v}{σ:St}{H:Hp}{s:Shared}{E:.o}
theorem Inv.wish (I:.u)(E:.o):Inv (X.wish E) pins σ H s:=⟨I.ok.wish E,I.os,I.bare,I.base,I.loc,I.cell,I.free,I.freeC,I.pin,I.hok,I.len⟩
theorem Inv.unwish (I:Inv (X.wish E) pins σ H s):Inv X pins σ H s:=⟨I.ok.unwish,I.os,I.bare,I.base,I.loc,I.cell,I.free,I.freeC,I.pin,I.hok,I.len⟩
theorem SP.unwish {D:Ends}{f:Flow}{s':Shared}(h:SP (X.wish E) pins D f s'):SP X pins D f s':=by
 cases f with
 |next=>obtain⟨σ',H',I,q⟩:=h;exact⟨σ',H',I.unwish,q⟩
 |brk=>obtain⟨σ',H',I,q⟩:=h;exact⟨σ',H',I.unwish,q⟩
 |cont=>obtain⟨σ',H',I,q⟩:=h;exact⟨σ',H',I.unwish,q⟩
 |ret u=>obtain⟨v,σ',H',I,r,q⟩:=h;exact⟨v,σ',H',I.unwish,r,q⟩
theorem mY.nox {st:.bB}{t:TS}(h:mY X.nox st t):mY X st t:=fun pins s σ H D I L =>
 wpAny_mono (h pins s σ H D (I.wish _) L) (fun _ _ q=>q.unwish) fun _ _ z=>False.elim z
end
section
variable {X:Cx}{st:Stmt}{rest:.bB}{t u:TS}{e:Expr}{te:TE}{pos:Pos}
def QR:TS:=fun D σ H=>D.nx σ H
def Ti (t u:TS):TS:=fun D σ H=>t { D with nx:=u D } σ H
theorem rS:mY X [] QR:=fun _ _ σ H _ I h=>wpAny_execs_nil ⟨σ,H,I,h⟩
theorem jb (h1:PS X st t)(h2:mY X rest u):mY X (st::rest) (Ti t u):=by
 intro pins s σ H D I h
 refine wpAny_execs_cons (df (h1 pins s σ H { D with nx:=u D } I h) fun f s1 q=>?_)
 cases f with
 |next =>
  obtain⟨σ',H',l,q⟩:=q
  exact h2 pins s1 σ' H' D l q
 |ret v=>exact q
 |brk=>exact q
 |cont=>exact q
theorem yO (h1:PS X st t):mY X [st] t:=by
 intro pins s σ H D I h
 refine wpAny_execs_cons (df (h1 pins s σ H D I h) fun f s1 q=>?_)
 cases f with
 |next=>exact wpAny_execs_nil q
 |ret v=>exact q
 |brk=>exact q
 |cont=>exact q
theorem Inv.quiet {pins:.v}{σ:St}{H:Hp}{s:Shared}(I:.u):interactive X.env=false:=by simp [interactive,I.ok.kind]
def QP (te:TE):TS:=fun D σ H=>te σ H fun _ H1=>D.nx σ H1
theorem yN (he:PE X e te)(hs:swapsWith e none pos.line X.env=pure false:=by rfl):PS X (.Expr e pos) (QP te):=by
 intro pins s σ H D I h
 exact wpAny_Expr_any (df .cs fun v s1 .ay=>⟨σ,H1,O,q1⟩) I.quiet hs
def Tg (te:TE):TS:=fun D σ H=>te σ H D.rt
theorem IP (he:PE X e te):PS X (.Return (some e) pos) (Tg te):=by
 intro pins s σ H D I h
 exact wpAny_Return_some (df .cs fun v s1 .ay=>⟨x,σ,H1,O,r1,q1⟩)
noncomputable def Tc (c:TT)(t u:TS):TS:=fun D σ H=>c σ H fun b H1=>if b=true then t D σ H1 else u D σ H1
theorem IL {c:Expr}{a b:.bB}{tc:TT}(U:PT X c tc)(ha:mY X a t)(hb:mY X b u):PS X (.If c a b pos) (Tc tc t u):=by
 intro pins s σ H D I h
 refine wpAny_If (df (U pins s σ H _ I h) fun d s1 ⟨H1,O,q1⟩=>?_)
 cases d with
 |true=>exact ha pins s1 σ H1 D O q1
 |false=>exact hb pins s1 σ H1 D O q1
def Jp:TS:=fun _ _ _=>False
theorem IM:PS X st Jp:=fun _ _ _ _ _ _ h=>h.elim
theorem FL {RK:.bB}:mY X RK Jp:=fun _ _ _ _ _ _ h=>h.elim
end
abbrev TG:=V->St->Hp->(St->Hp->Prop)->Prop
abbrev JC:=List V->St->Hp->(St->Hp->Prop)->Prop
noncomputable def PG (X:Cx)(target:Expr)(t:TG):Prop:=
 ∀(pins:.v) (s:Shared) (σ:St) (H:Hp) (v:V) (u:Value) (Q:St->Hp->Prop),Inv X pins σ H s->RelV v u->t v σ H Q ->
  wpAny .t X.A (assign target X.env u) (fun _ s'=>∃σ' H',Inv X pins σ' H' s'/\Q σ' H') X.xe s
noncomputable def Ox (X:Cx)(ts:.av)(t:JC):Prop:=
 ∀(pins:.v) (s:Shared) (σ:St) (H:Hp) (vs:List V) (us:.S) (Q:St->Hp->Prop),Inv X pins σ H s->Vals vs us->t vs σ H Q ->
  wpAny .t X.A (assignInOrder ((assignEach ts X.env).map (·.2)) us) (fun _ s'=>∃σ' H',Inv X pins σ' H' s'/\Q σ' H') X.xe s
section
variable {X:Cx}{pos:Pos}
def L9 (i:Nat):TG:=fun v σ H Q=>Q (σ.set i .di) H
theorem La {i:Nat}{x:Str}(J:.fC)(hi:X.N[i]? = some x)(hx:.e2)(hf:X.fn x=true\/X.env.scope.names.lookup x=some .local:=by first | exact .inl rfl | exact .inr rfl | assumption):PG X .cI (L9 i):=by
 intro pins s σ H v u Q I r h
 exact wpAny_assign_Name (pC I J hi hx r (fun s' l=>⟨_,H,l,h⟩) hf)
def Sh:JC:=fun vs σ H Q=>vs=[]/\Q σ H
def Pz (t:TG)(u:JC):JC:=fun vs σ H Q=>∃v r,vs=v::r/\t v σ H fun σ' H'=>u r σ' H' Q
theorem Lb:Ox X [] Sh:=by
 intro pins s σ H vs us Q I r h
 obtain⟨e,h⟩:=h
 subst e
 exact assignInOrder_nil ⟨σ,H,I,h⟩
theorem IH {e:Expr}{es:.av}{t:TG}{u:JC}(h1:PG X e t)(h2:Ox X es u)
  (hs:(assignEach (e::es) X.env).map (·.2)=assign e X.env::(assignEach es X.env).map (·.2):=by rfl):Ox X (e::es) (Pz t u):=by
 intro pins s σ H vs us Q I r h
 obtain⟨v,a,e1,h⟩:=h
 subst e1
 cases r with
 |cons r w =>
  rw [hs]
  refine assignInOrder_cons (df (h1 pins s σ H _ _ _ I r h) fun _ s1 ⟨l,H1,O,q1⟩=>?_)
  exact h2 pins s1 l H1 _ _ Q O w q1
noncomputable def Sj (K:.l)(n:Nat)(t:JC):TG:=fun v σ H Q=>∃a xs,v=.ref a/\nv K H a xs/\xs.length=n/\t xs σ H Q
theorem NO {es:.av}{k:Nat}{t:JC}{n:Nat}(U:.bt)(h:Ox X es t)
  (hn:(assignEach es X.env).length=n:=by rfl) (J:(assignEach es X.env).findIdx? (·.1)=none:=by rfl):PG X .f3 (Sj X.K n t):=by
 intro pins s σ H v u Q I r L
 obtain⟨a,xs,e1,hq,hl,L⟩:=L
 subst e1
 cases r
 obtain⟨G,f,Y,hz⟩:=I.tuple hq
 refine assign_Tuple_tuple .cX Y (by simp [hn,<- hl,f.length]) J fun h' hx=>?_
 have O:=I.kept (t':=s.toks) fun b o e=>hx b o (zat .aF) e
 exact h pins _ σ H xs _ Q O (by simpa using f) L
def QL (te:TE)(g:TG):TS:=fun D σ H=>te σ H fun x H1=>g x σ H1 D.nx
theorem NS {tg e:Expr}{te:TE}{g:TG}(he:PE X e te)(M:PG X tg g)(hs:swapsWithSole [tg] e pos.line X.env=pure false:=by rfl)(L:swappedStores [tg] e X.env=pure none:=by rfl)
  (h1:(assignEach [tg] X.env).map (·.2)=[assign tg X.env]:=by rfl):PS X (.Assign [tg] e pos) (QL te g):=by
 intro pins s σ H D I h
 refine wpAny_Assign_stores (df .cs fun v s1 .ay=>?_) hs L
 rw [h1]
 exact df (M pins s1 σ H1 x v _ O r1 q1) fun _ s2 q=>q
theorem Cz {i:Nat}{x:Str}{e:Expr}{te:TE}{pos':Pos}(J:.fC)(hi:X.N[i]? = some x)(hx:.e2)(he:PE X e te)(hs:swapsWith e (.Z x pos') pos.line X.env=pure false:=by rfl)(hf:X.fn x=true\/X.env.scope.names.lookup x=some .local:=by first | exact .inl rfl | exact .inr rfl | assumption):
  PS X (.Assign [.Name x pos'] e pos) (QL te (L9 i)):=by
 intro pins s σ H D I h
 refine wpAny_Assign_Name (df .cs fun v s1 ⟨y,H1,O,r1,q1⟩=>?_) hs
 exact pC O J hi hx r1 (fun s2 K=>⟨_,H1,K,q1⟩) hf
noncomputable def Tf (i j:Nat)(ta:TA):TS:=fun D σ H=>ta σ H fun vs H1=>∃v w,vs=[v,w]/\D.nx ((σ.set i .di).set j (some w)) H1
theorem NU {i j:Nat}{x y:Str}{a b:Expr}{ta:TA}{px n pt:Pos}{kt k2 k}(U:.bt)(J:.fC)(hi:X.N[i]? = some x)(S:X.N[j]? = some y)(l:i≠j)
  (hx:X.env.scope.names.lookup x=some .local) (R:.bR) (ha:PA X [a,b] ta)
  (L:swappedStores .gb .fg X.env=pure (some [x,y]))
  (hs:swapsWithSole .gb .fg pos.line X.env=pure false:=by rfl):
  PS X (.Assign .gb .fg pos) (Tf i j ta):=by
 intro pins s σ H D I h
 refine .f (wpAny_standAt ?_)
 refine .f .b0
 refine .f (Tuple_ (df (ha _ pins s σ H _ I h) fun us s1 ⟨vs,H1,O,r1,q1⟩=>?_))
 obtain⟨v,w,e1,q1⟩:=q1
 subst e1
 obtain⟨M,g,rfl,f,d⟩:∃M g,us=[M,g]/\RelV v M/\RelV w g:=by
  cases r1 with
  |cons p q =>
   cases q with
   |cons P T =>
    cases T
    exact⟨_,_,rfl,p,P⟩
 refine wpAny_newObj_type ?_ (by show 2≤sizeLine;decide)
 have K:Inv X pins σ H1 { s1 with heap:=s1.heap.push { cls:=.type "tuple", data:=.seq [M,g].toArray } }:=O.kept fun b o e=>Heap.get?_push_of_some _ e
 rw [L]
 refine .f .b0
 refine .f (wpAny_rule (.G (unpackItems_tuple (items:=#[M,g]) .cX (IsTup.new s1.heap _) fun h' Q=>?_)))
 refine .f (assignInOrder_cons (wpAny_bindName (pC (K.kept (h':=h') (t':=s1.toks) fun b o e=>Q b o (zat .aF) e) J S (.inl R) d (fun s2 t=>?_) (.inr R))))
 refine assignInOrder_cons (wpAny_bindName (pC t J hi (.inl hx) f (fun c G=>assignInOrder_nil .b0) (.inr hx)))
 rw [List.set_comm _ _ (.a2 l)] at G
 exact⟨_,H1,G,q1⟩
end
section
variable {X:Cx}{pos:Pos}
noncomputable def Oh (c:TT)(tb:TS):TS:=fun D σ H=>∃W:Nat->St->Hp->Prop,(∃m,W m σ H)/\∀m σ H,W m σ H ->
 c σ H fun b H1=>if b=true then ∃N:St->Hp->Prop,(∀σ' H',N σ' H'->∃Q,Q<m/\W Q σ' H')/\tb { D with nx:=N,ct:=N,bk:=D.nx } σ H1 else D.nx σ H1
theorem IQ {c:Expr}{body:.bB}{tc:TT}{tb:TS}(hp:.ee)(U:PT X c tc)(hb:mY X body tb):PS X (.While c body [] pos) (Oh tc tb):=by
 intro pins s σ H D I h
 obtain⟨W,⟨m0,a⟩,turn⟩:=h
 refine wpAny_While (codeAny_whileLoop (fun n s'=>∃σ' H',Inv X pins σ' H' s'/\W n σ' H') ?_ m0 ⟨σ,H,I,a⟩)
 rintro n s1 ⟨l,H1,O,S⟩
 refine .a7 (df (U pins s1 l H1 _ O (turn n l H1 S)) fun b s2 ⟨H2,K,q2⟩=>?_)
 cases b with
 |true =>
  obtain⟨N,J,q2⟩:=q2
  refine .a7 (df (hb pins s2 l H2 _ K q2) fun f w q3=>?_)
  cases f with
  |next =>
   obtain⟨j,P,A,i⟩:=q3
   obtain⟨Q,hm,k⟩:=J j P i
   exact⟨Q,hm,j,P,A,k⟩
  |cont =>
   obtain⟨j,P,A,i⟩:=q3
   obtain⟨Q,hm,k⟩:=J j P i
   exact⟨Q,hm,j,P,A,k⟩
  |brk=>exact q3
  |ret v=>exact q3
 |false =>
  exact wpAny_execs_nil ⟨l,H2,K,q2⟩
end
structure It where
 go:Nat->Hp->Prop
 yld:Nat->Hp->V->Hp->Prop
 stop:Nat->Hp->Prop
noncomputable def si (X:Cx)(pins:.v)(H:Hp)(b:Addr):Prop:=
 H b=none/\b≠X.env.locals/\b∉X.fs/\(b∈X.ex\/X.Y8.heap.objs.size≤b)/\(∀x c,X.env.cells.lookup x=some c->c≠b)/\∀p∈X.pn++pins,p.1≠b
theorem Inv.fpOk {X:Cx}{pins:.v}{σ:St}{H H':Hp}{s:Shared}{b:Addr}(I:.u)(hb:s.heap.objs.size≤b)(hn:H' b=none):si X pins H' b:=by
 refine⟨hn,za6 (zaw I.lt hb),I.nofs hb,.inr (zaG I.sz hb),fun x c e z=>?_,fun p hp z=>?_⟩
 ·obtain⟨v,q⟩:=I.cell x c e
  exact absurd (zaw q.lt (by rw [z];exact hb)) (zaP _)
 ·exact absurd (zaw (Heap.lt_size (I.pin p hp).1) (by rw [z];exact hb)) (zaP _)
structure Turn (P:.ah)(w:World)(K:.l)(tg:Expr)(J:It)(fp:.af)(it:Addr)(tn:Nat->Heap->Prop):Prop where
 mem:it∈fp
 obj:∀i h,tn i h->∀b∈fp,∃o,h.get? b=some o/\∀v,o.data≠.cell v
 keep:∀i h h',tn i h->(∀b∈fp,∀o,h.get? b=some o->h'.get? b=some o)->tn i h'
 item:∀(X:Cx),X.prog=P->X.w=w->X.K=K->X.calm=true->∀(i:Nat) (pins:.v) (s:Shared) (σ:St) (H:Hp) (E:.o),Inv X pins σ H s->(∀b∈fp,si X pins H b)->tn i s.heap->J.go i H ->
  wpAny .gz X.A (pyNext .g1) (fun r s1=>∃u,r=some u /\
   wpAny .gz X.A (letOwnedTupleGo tg .g1 u) (fun _ s2=>∃x H',Inv X pins σ H' s2/\RelV x u/\J.yld i H x H'/\tn (i+1) s2.heap/\∀b∈fp,H' b=none) E s1) E s
 done:∀(X:Cx),X.prog=P->X.w=w->X.K=K->X.calm=true->∀(i:Nat) (pins:.v) (s:Shared) (σ:St) (H:Hp) (E:.o),Inv X pins σ H s->(∀b∈fp,si X pins H b)->tn i s.heap->J.stop i H ->
  wpAny .gz X.A (pyNext .g1) (fun r s1=>r=none/\Inv X pins σ H s1) E s
 self:∀(A:Around) (i:Nat) (s:Shared) (Q:.o) (E:.o),tn i s.heap->Q .g1 s->wpAny .gz A (pyIter .g1) Q E s
abbrev TI:=St->Hp->(It->Hp->Prop)->Prop
noncomputable def R3 (X:Cx)(pins:.v)(σ:St)(tg:Expr)(R:It->Hp->Prop)(a:Value)(s2:Shared):Prop:=
 ∃(it:Addr) (fp:.af) (tn:Nat->Heap->Prop) (J:It) (H':Hp),a=.ref it/\Inv X pins σ H' s2/\Turn X.prog X.w X.K tg J fp it tn/\tn 0 s2.heap/\(∀b∈fp,si X pins H' b)/\R J H'
noncomputable def PI (X:Cx)(tg iter:Expr)(d:TI):Prop:=
 ∀(pins:.v) (s:Shared) (σ:St) (H:Hp) (R:It->Hp->Prop),Inv X pins σ H s->d σ H R ->
  wpAny .t X.A (.Z iter) (fun v s1=>wpAny .t X.A (pyIter v) (R3 X pins σ tg R) X.xe s1) X.xe s
theorem Dx {M:Model}{A:Around}{E:.o}{s:Shared}{tg:Expr}{it:Addr}{u:Value}{o:Obj}{n:String}{vs:.cv}{Q:.dI}(ho:s.heap.get? it=some o)(U:o.cls=.type n)(hd:o.data=.fields vs)
    (hn:["enumerate","zip","dict_itemiterator","dict_reverseitemiterator","odict_iterator","itertools.zip_longest","itertools.pairwise"].contains n=false) (B:Q () s):wpAny M A (letOwnedTupleGo tg .g1 u) Q E s:=by
  cases tg<;>first
    |exact wpAny_pure B
    | (cases u<;>first
        |exact wpAny_pure B
        | (refine wpAny_bind (wpAny_load ho ?_)
           rw [U,hd]
           show wpAny M A (if (["enumerate","zip","dict_itemiterator","dict_reverseitemiterator","odict_iterator","itertools.zip_longest","itertools.pairwise"].contains n&&vs[0]? == some _)=true then _ else _) Q E s
           rw [if_neg (by intro h;rw [hn] at h;cases h)]
           exact wpAny_pure B))
noncomputable def RY (K:.l)(a:Addr):It:=
 ⟨fun i H=>∃xs x,gE K H a xs/\xs[i]? = some x,fun i H x H'=>H'=H/\∀xs,gE K H a xs->xs[i]? = some x,fun i H=>∃xs,gE K H a xs/\xs.length≤i⟩
noncomputable def R0 (K:.l)(a:Addr):It:=
 ⟨fun i H=>∃xs x,nv K H a xs/\xs[i]? = some x,fun i H x H'=>H'=H/\∀xs,nv K H a xs->xs[i]? = some x,fun i H=>∃xs,nv K H a xs/\xs.length≤i⟩
noncomputable def Q5 (lo:Int)(n:Nat):It:=⟨fun i _=>i<n,fun i H x H'=>H'=H/\x=.int (lo+i),fun i _=>n≤i⟩
theorem Gd {P:.ah}{w:World}{K:.l}{tg:Expr}(a it:Addr):Turn P w K tg (RY K a) [it] it (fun i h=>h.IsListIter it a i) where
 mem:=.h
 obj:=fun i h st b hb=>by
  have e:b=it:=by simpa using hb
  subst e
  obtain⟨o,e,c,d⟩:=st
  exact⟨o,e,fun v z=>by rw [d] at z;cases z⟩
 keep:=fun i h h' st k=>st.at fun o e=>k it .h o e
 item:=by
  intro X j L Y U i pins s σ H E I hf st M
  subst j L Y
  obtain⟨xs,x,hq,hx⟩:=M
  obtain⟨G,f,p,hz⟩:=I.list hq
  obtain⟨u,hu,W⟩:=f.get hx
  obtain⟨f0,f1,f2,T,f4,F⟩:=hf it .h
  refine wpAny_pyNext_list_item st p.isList (by simpa using hu) fun h' l N=>?_
  have O:=I.turned (t':=s.toks) .eh f0 f1 T f4 F
  obtain⟨o,e,c,d⟩:=id l
  exact⟨u,rfl,Dx e c d .f ⟨x,H,O,W,⟨rfl,fun ys R=>by rw [I.list_inj R hq];exact hx⟩,l,fun b hb=>(hf b hb).1⟩⟩
 done:=by
  intro X j L Y U i pins s σ H E I hf st M
  subst j L Y
  obtain⟨xs,hq,hx⟩:=M
  obtain⟨G,f,p,hz⟩:=I.list hq
  obtain⟨f0,f1,f2,T,f4,F⟩:=hf it .h
  have hl:=f.length
  exact wpAny_pyNext_list_end .cX st p.isList .j fun h' C=>⟨rfl,I.turned (fun b o hb e=>C b o hb e) f0 f1 T f4 F⟩
 self:=fun _ _ _ _ _ st h=>wpAny_pyIter_listiter st h
theorem CQ {P:.ah}{w:World}{K:.l}{tg:Expr}(a it:Addr):Turn P w K tg (R0 K a) [it] it (fun i h=>h.IsTupleIter it a i) where
 mem:=.h
 obj:=fun i h st b hb=>by
  have e:b=it:=by simpa using hb
  subst e
  obtain⟨o,e,c,d⟩:=st
  exact⟨o,e,fun v z=>by rw [d] at z;cases z⟩
 keep:=fun i h h' st k=>st.at fun o e=>k it .h o e
 item:=by
  intro X j L Y U i pins s σ H E I hf st M
  subst j L Y
  obtain⟨xs,x,hq,hx⟩:=M
  obtain⟨G,f,p,hz⟩:=I.tuple hq
  obtain⟨u,hu,W⟩:=f.get hx
  obtain⟨f0,f1,f2,T,f4,F⟩:=hf it .h
  refine wpAny_pyNext_tuple_item st (p) (by simpa using hu) fun h' l N=>?_
  have O:=I.turned (t':=s.toks) .eh f0 f1 T f4 F
  obtain⟨o,e,c,d⟩:=id l
  exact⟨u,rfl,Dx e c d .f ⟨x,H,O,W,⟨rfl,fun ys R=>by rw [I.tuple_inj R hq];exact hx⟩,l,fun b hb=>(hf b hb).1⟩⟩
 done:=by
  intro X j L Y U i pins s σ H E I hf st M
  subst j L Y
  obtain⟨xs,hq,hx⟩:=M
  obtain⟨G,f,p,hz⟩:=I.tuple hq
  obtain⟨f0,f1,f2,T,f4,F⟩:=hf it .h
  have hl:=f.length
  exact wpAny_pyNext_tuple_end .cX st (p) .j fun h' C=>⟨rfl,I.turned (fun b o hb e=>C b o hb e) f0 f1 T f4 F⟩
 self:=fun _ _ _ _ _ st h=>wpAny_pyIter_tupleiter st h
theorem CP {P:.ah}{w:World}{K:.l}{tg:Expr}(it:Addr)(lo:Int)(n:Nat):Turn P w K tg (Q5 lo n) [it] it (fun i h=>IsRangeIter h it (lo+(i:Nat)*1) ((n:Int)-(i:Nat)) 1) where
 mem:=.h
 obj:=fun i h st b hb=>by grind
 keep:=fun i h h' st k=>k it .h _ st
 item:=by
  intro X j L Y U i pins s σ H E I hf st M
  subst j L Y
  obtain⟨f0,f1,f2,T,f4,F⟩:=hf it .h
  refine (Walks.range (prog:=X.prog) (w:=X.w) .cX it lo 1 n).item i s _ _ M st fun v h' tk N l kk=>?_
  obtain⟨t,rfl⟩:=N
  have O:Inv X pins σ H { s with heap:=h',toks:=tk }:=I.turned .e4 f0 f1 T f4 F
  refine⟨_,rfl,Dx (n := "range_iterator") l rfl rfl .f ⟨.int (lo+i),H,O,⟨t,?_⟩,⟨rfl,rfl⟩,l,fun b hb=>(hf b hb).1⟩⟩
  rw [Int.mul_one]
 done:=by
  intro X j L Y U i pins s σ H E I hf st M
  obtain⟨f0,f1,f2,T,f4,F⟩:=hf it .h
  exact wpAny_pyNext_range_end .cX st (by have:n≤i:=M;omega) fun h' C=>⟨rfl,I.turned (fun b o hb e=>C b o hb e) f0 f1 T f4 F⟩
 self:=fun _ _ _ _ _ st h=>wpAny_pyIter_rangeiter st h
section
variable {X:Cx}{tg:Expr}
noncomputable def PR (K:.l)(tl:TE):TI:=fun σ H R=>tl σ H fun x H1=>∃a,x=.ref a/\(∃xs,gE K H1 a xs)/\R (RY K a) H1
noncomputable def So (K:.l)(tl:TE):TI:=fun σ H R=>tl σ H fun x H1=>∃a,x=.ref a/\(∃xs,nv K H1 a xs)/\R (R0 K a) H1
theorem Lc {l:Expr}{tl:TE}(hl:PE X l tl):PI X tg l (PR X.K tl):=by
 intro pins s σ H R I h
 refine .fz
 obtain⟨a,e,⟨xs,hq⟩,q⟩:=q1
 subst e
 cases r1
 obtain⟨G,f,p,hz⟩:=O.list hq
 refine wpAny_pyIter_list p.isList ?_
 refine⟨s1.heap.objs.size,.gv,_,_,H1,rfl,O.kept fun b o e=>Heap.get?_push_of_some _ e,Gd a _,.d6,fun b hb=>?_,q⟩
 have e:b=s1.heap.objs.size:=by simpa using hb
 subst e
 exact .ak .b8
theorem NQ {l:Expr}{tl:TE}(hl:PE X l tl):PI X tg l (So X.K tl):=by
 intro pins s σ H R I h
 refine .fz
 obtain⟨a,e,⟨xs,hq⟩,q⟩:=q1
 subst e
 cases r1
 obtain⟨G,f,p,hz⟩:=O.tuple hq
 refine wpAny_pyIter_tuple (p) ?_
 refine⟨s1.heap.objs.size,.gv,_,_,H1,rfl,O.kept fun b o e=>Heap.get?_push_of_some _ e,CQ a _,.d6,fun b hb=>?_,q⟩
 have e:b=s1.heap.objs.size:=by simpa using hb
 subst e
 exact .ak .b8
theorem IU {pins:.v}{σ:St}{H:Hp}{s:Shared}{R:It->Hp->Prop}{E:.o}{lo hi:Int}{t u v:Tok}{tk:Nat}(I:.u)(h1 : -(2^62)≤lo)(h2:lo<2^62)(W : -(2^62)≤hi)(N:hi<2^62)
  (q:R (Q5 lo (hi-lo).toNat) H):wpAny .t X.A (pyIter .a6) (R3 X pins σ tg R) E { s with heap:=s.heap.push { cls:=.type "range", data:=.fields #[.int lo t,.int hi u,.int 1 v] },toks:=tk }:=by
 refine wpAny_pyIter_range (IsRange.new ..) (small_one h1 h2 W N) ?_
 have O:Inv X pins σ H { s with heap:=s.heap.push { cls:=.type "range", data:=.fields #[.int lo t,.int hi u,.int 1 v] },toks:=tk }:=I.kept fun b o e=>Heap.get?_push_of_some _ e
 refine⟨(s.heap.push { cls:=.type "range", data:=.fields #[.int lo t,.int hi u,.int 1 v] }).objs.size,[(s.heap.push { cls:=.type "range", data:=.fields #[.int lo t,.int hi u,.int 1 v] }).objs.size],_,_,H,rfl,
  O.kept fun b o e=>Heap.get?_push_of_some _ e,CP _ lo (hi-lo).toNat,?_,fun b hb=>?_,q⟩
 ·have e1:lo+((0:Nat):Int)*1=lo:=.h
  have e2:(((hi-lo).toNat:Nat):Int)-((0:Nat):Int)=Builtin.Range.rangeSize lo hi 1:=by rw [rangeSize_one];split<;>omega
  rw [e1,e2]
  exact .ac
 ·have e:b=(s.heap.push { cls:=.type "range", data:=.fields #[.int lo t,.int hi u,.int 1 v] }).objs.size:=by simpa using hb
  subst e
  exact .ak .b8
noncomputable def PV (ta:TA):TI:=fun σ H R=>ta σ H fun vs H1=>∃j:Int,vs=[.int j] /\ -(2^62)≤j/\j<2^62/\R (Q5 0 j.toNat) H1
theorem FJ {a:Expr}{ta:TA}{p pos:Pos}(M:Gl X "range")(hm:X.mg "range" = none)(ha:PA X [a] ta)(hs:starEach [a] X.env=[(.m a)]:=by rfl):PI X tg (.Call (.Name "range" p) [a] [] pos) (PV ta):=by
 intro pins s σ H R I h
 refine Call_ (my I M hm boot_range (zaN (df .ej fun us s1 ⟨vs,H1,O,r1,q1⟩=>?_) hs rfl))
 obtain⟨j,e,q1,q2,q⟩:=q1
 subst e
 cases r1 with
 |cons r w =>
  cases w
  obtain⟨t,rfl⟩:=r
  exact call_range_1 (IU O .e .e q1 q2 (by simpa using q))
noncomputable def Tb (d:TI)(g:TG)(tb:TS):TS:=fun D σ H=>d σ H fun J H1=>∃W:Nat->Nat->St->Hp->Prop,(∃m,W 0 m σ H1)/\∀i m σ H,W i m σ H ->
 (J.stop i H/\D.nx σ H)\/(J.go i H/\∃N:St->Hp->Prop,(∀σ' H',N σ' H'->∃Q,Q<m/\W (i+1) Q σ' H')/\∀x H',J.yld i H x H'->g x σ H' fun n H2=>tb { D with nx:=N,ct:=N,bk:=D.nx } n H2)
noncomputable def qi (fp:.af)(h:Heap):List (Addr×Obj):=fp.filterMap fun b=>(h.get? b).map fun o=>(b,o)
theorem gJ {fp:.af}{h:Heap}{b:Addr}{o:Obj}(hb:b∈fp)(e:h.get? b=some o):(b,o)∈qi fp h:=zbi.mpr ⟨b,hb,by rw [e];rfl⟩
theorem Fz {fp:.af}{h:Heap}{p:Addr×Obj}(hp:p∈qi fp h):p.1∈fp/\h.get? p.1=some p.2:=by
 obtain⟨b,hb,e⟩:=zbi.mp hp
 cases q:h.get? b with
 |none=>rw [q] at e;cases e
 |some o =>
  rw [q] at e
  have j:=zaT e
  subst j
  exact⟨hb,q⟩
theorem Inv.pinned {pins:.v}{σ:St}{H:Hp}{s:Shared}{fp:.af}(I:.u)(hf:∀b∈fp,si X pins H b)(ho:∀b∈fp,∃o,s.heap.get? b=some o/\∀v,o.data≠.cell v):Inv X (pins++qi fp s.heap) σ H s:=
 I.pins_of fun p hp=>(zaz.mp hp).elim (fun z=>I.pin p (zaq _ z)) fun z=>by
  obtain⟨hb,e⟩:=Fz z
  obtain⟨f0,f1,f2,_⟩:=hf p.1 hb
  obtain⟨o,j,d⟩:=ho p.1 hb
  rw [e] at j;cases j
  exact⟨e,f0,f1,f2,d⟩
theorem Inv.unpinned {pins pl:.v}{σ:St}{H:Hp}{s:Shared}(I:Inv X (pins++pl) σ H s):Inv X pins σ H s:=I.pins_of fun p hp=>I.pin p (zaq _ (zaH _ hp))
theorem IK {iter:Expr}{body:.bB}{wi:TI}{g:TG}{tb:TS}{pos:Pos}(hp:.ee)(U:.bt)(hi:PI X tg iter wi)(M:PG X tg g)(hb:mY X body tb)
  (hs:∀x,foldedSetIterable iter X.env x=pure x:=by intro _;rfl):PS X (.For tg iter body [] pos) (Tb wi g tb):=by
 intro pins s σ H D I h
 refine wpAny_For (df (hi pins s σ H _ I h) fun v s1 h1=>df h1 fun itv s2 h2=>?_) hs
 obtain⟨it,fp,tn,J,H2,e,K,T,k,f2,W,⟨m0,w0⟩,turn⟩:=h2
 subst e
 -- what stays true of S iterator's objects through S loop
 have Y:∀{H':Hp},(∀b∈fp,H' b=none)->∀b∈fp,si X pins H' b:=fun hn b hb=>⟨hn b hb,(f2 b hb).2⟩
 refine codeAny_forLoop_any (fun n s'=>∃i σ' H',Inv X pins σ' H' s'/\tn i s'.heap/\(∀b∈fp,H' b=none)/\W i n σ' H') ?_ m0 ⟨0,σ,H2,K,k,fun b hb=>(f2 b hb).1,w0⟩
 rintro n s3 ⟨i,j,P,A,B,E,w3⟩
 rcases turn i n j P w3 with ⟨stop,p⟩ | ⟨go,N,q,step⟩
 ·refine wpAny_passesOwn hp (df (T.done X rfl rfl rfl U i pins s3 j P X.xe A (Y E) B stop) fun r C ⟨hr,t⟩=>?_)
  subst hr
  exact wpAny_execs_nil ⟨j,P,t,p⟩
 ·refine wpAny_passesOwn hp (df (T.item X rfl rfl rfl U i pins s3 j P X.xe A (Y E) B go) fun r C ⟨u,hr,c⟩=>?_)
  subst hr
  refine .a7 (df c fun _ s5 ⟨x,V,G,r5,Z,l,fr5⟩=>?_)
  refine .a7 (df (M _ s5 j V x u _ (G.pinned (Y fr5) (T.obj _ _ l)) r5 (step x V Z)) fun _ F ⟨a,H6,I6,q6⟩=>?_)
  refine .a7 (df (hb _ F a H6 _ I6 q6) fun f L R=>?_)
  have again:∀{w:St} {y:Hp},Inv X _ w y L->N w y->∃m,m<n/\∃i σ' H',Inv X pins σ' H' L/\tn i L.heap/\(∀b∈fp,H' b=none)/\W i m σ' H':=fun {w y} z n7=>by
   obtain⟨Q,hm,w7⟩:=q w y n7
   refine⟨Q,hm,i+1,w,y,z.unpinned,T.keep _ _ _ l fun b hb o e=>(z.pin (b,o) .du).1,fun b hb=>?_,w7⟩
   obtain⟨o,e,d⟩:=T.obj _ _ l b hb
   exact (z.pin (b,o) .du).2.1
  cases f with
  |next=>obtain⟨w,y,z,n7⟩:=R;exact again z n7
  |cont=>obtain⟨w,y,z,n7⟩:=R;exact again z n7
  |brk=>obtain⟨w,y,z,R⟩:=R;exact⟨w,y,z.unpinned,R⟩
  |ret v=>obtain⟨O,w,y,z,r7,R⟩:=R;exact⟨O,w,y,z.unpinned,r7,R⟩
end
abbrev R2:=V->V->Hp->VK->Prop
noncomputable def pP (X:Cx)(f:.d0)(r:R2):Prop:=
 ∀(pins:.v) (s:Shared) (σ:St) (H:Hp) (x y:V) (v u:Value) (Q:VK),Inv X pins σ H s->RelV x v->RelV y u->r x y H Q ->
  wpAny .t X.A (f v u) .cU X.xe s
noncomputable def Q7 (X:Cx)(f:Value->Sem Value)(r:V->Hp->VK->Prop):Prop:=
 ∀(pins:.v) (s:Shared) (σ:St) (H:Hp) (x:V) (v:Value) (Q:VK),Inv X pins σ H s->RelV x v->r x H Q ->
  wpAny .t X.A (f v) .cU X.xe s
noncomputable def gk (X:Cx)(f:Value)(r:List V->Hp->VK->Prop):Prop:=
 ∀(pins:.v) (s:Shared) (σ:St) (H:Hp) (xs:List V) (us:.S) (Q:VK),Inv X pins σ H s->Vals xs us->r xs H Q ->
  wpAny .t X.A (call f us) .cU X.xe s
noncomputable def R6 (X:Cx)(r:V->Hp->(Bool->Hp->Prop)->Prop):Prop:=
 ∀(pins:.v) (s:Shared) (σ:St) (H:Hp) (x:V) (v:Value) (Q:Bool->Hp->Prop),Inv X pins σ H s->RelV x v->r x H Q ->
  wpAny .t X.A (truthy v) (TP X pins σ Q) X.xe s
def QU (r:R2)(ta tb:TE):TE:=fun σ H Q=>ta σ H fun x H1=>tb σ H1 fun y H2=>r x y H2 Q
def UA (r:V->Hp->VK->Prop)(ta:TE):TE:=fun σ H Q=>ta σ H fun x H1=>r x H1 Q
noncomputable def rI (C:Int->Int->Prop)(g:Int->Int->V):R2:=fun x y H Q=>∃i j,x=.int i/\y=.int j/\C i j/\Q .hy H
def Li (g:Int->Int->V):R2:=fun x y H Q=>∃i j,x=.int i/\y=.int j/\Q .hy H
def rU (g:Int->V):V->Hp->VK->Prop:=fun x H Q=>∃i,x=.int i/\Q (g i) H
section
variable {X:Cx}{a b c:Expr}{ta tb tc:TE}{pos:Pos}
theorem MD (ha:.gt)(hb:PE X b tb){pins:.v}{s:Shared}{σ:St}{H:Hp}{R:V->V->Hp->Prop}(I:.u)
  (h:ta σ H fun x H1=>tb σ H1 fun y H2=>R x y H2) {Q:.o} {f:.d0}
  (hf:∀v u s2 x y H2,Inv X pins σ H2 s2->RelV x v->RelV y u->R x y H2->wpAny .t X.A (f v u) Q X.xe s2):
  wpAny .t X.A (.Z a) (fun v g=>wpAny .t X.A (.Z b) (fun u d=>wpAny .t X.A (f v u) Q X.xe d) X.xe g) X.xe s:=by
 refine df .bb fun v s1 .ay=>?_
 refine df .gl fun u s2 ⟨y,H2,K,r2,q2⟩=>?_
 exact hf v u s2 x y H2 K r1 r2 q2
theorem Qp {i:Operator}{r:R2}(ho:pP X (binaryOp i) r)(ha:.gt)(hb:PE X b tb):PE X (.BinOp a i b pos) (QU r ta tb):=by
 intro pins s σ H Q I h
 exact wpAny_BinOp (MD ha hb I h fun v u s2 x y H2 K L Z q=>ho pins s2 σ H2 x y v u Q K L Z q)
theorem Qq {i:UnaryOp}{r:V->Hp->VK->Prop}(ho:Q7 X (unaryOp i) r)(ha:.gt):PE X (.UnaryOp i a pos) (UA r ta):=by
 intro pins s σ H Q I h
 exact UnaryOp_ (df .bb fun v s1 .ay=>ho pins s1 σ H1 x v Q O r1 q1)
theorem RF {f:.d0}{C:Int->Int->Prop}{g:Int->Int->Int}
  (rule:∀(i j:Int) (t u:Tok) (s:Shared) (Q:.o) (E:.o),C i j->Q (.int .hy s.toks) { s with toks:=s.toks+1 }->wpAny .t X.A (f (.ag i t) (.ag j u)) Q E s):
  pP X f (rI C fun i j=>.int .hy):=by
 intro pins s σ H x y v u Q I L Z h
 obtain⟨i,j,rfl,rfl,U,q⟩:=h
 obtain⟨t,rfl⟩:=L
 obtain⟨t',rfl⟩:=Z
 exact rule i j t t' s _ _ U ⟨.int .hy,H,.g6,.al,q⟩
theorem Qf {f:.d0}{g:Int->Int->Int}
  (rule:∀(i j:Int) (t u:Tok) (s:Shared) (Q:.o) (E:.o),Q (.int .hy s.toks) { s with toks:=s.toks+1 }->wpAny .t X.A (f (.ag i t) (.ag j u)) Q E s):
  pP X f (Li fun i j=>.int .hy):=by
 intro pins s σ H x y v u Q I L Z h
 obtain⟨i,j,rfl,rfl,q⟩:=h
 obtain⟨t,rfl⟩:=L
 obtain⟨t',rfl⟩:=Z
 exact rule i j t t' s _ _ ⟨.int .hy,H,.g6,.al,q⟩
theorem KS {f:.d0}{g:Int->Int->Bool}
  (rule:∀(i j:Int) (t u:Tok) (s:Shared) (Q:.o) (E:.o),Q (.bool .hy) s->wpAny .t X.A (f (.ag i t) (.ag j u)) Q E s):
  pP X f (Li fun i j=>.bl .hy):=by
 intro pins s σ H x y v u Q I L Z h
 obtain⟨i,j,rfl,rfl,q⟩:=h
 obtain⟨t,rfl⟩:=L
 obtain⟨t',rfl⟩:=Z
 exact rule i j t t' s _ _ ⟨.bl .hy,H,I,rfl,q⟩
def JG (i j:Int):Prop:=0≤j/\j≤1000000/\i.natAbs<2^64
theorem Nr:pP X .gX (Li fun i j=>.int (i+j)):=Qf fun _ _ _ _ _ _ _ q=>add_int q
theorem Nx:pP X (binaryOp .Sub) (Li fun i j=>.int (i-j)):=Qf fun _ _ _ _ _ _ _ q=>sub_int q
theorem KW:pP X (binaryOp .Mod) (rI (fun _ j=>j≠0) fun i j=>.int (i.fmod j)):=RF fun _ _ _ _ _ _ _ U q=>mod_int' U q
theorem Nv:pP X (binaryOp .Pow) (rI JG fun i j=>.int (i^j.toNat)):=RF fun _ _ _ _ _ _ _ U q=>pow_int_small U.1 U.2.1 U.2.2 q
theorem UC {f:Value->Sem Value}{g:Int->Int}
  (rule:∀(i:Int) (t:Tok) (s:Shared) (Q:.o) (E:.o),Q (.int (g i) s.toks) { s with toks:=s.toks+1 }->wpAny .t X.A (f (.ag i t)) Q E s):
  Q7 X f (rU fun i=>.int (g i)):=by
 intro pins s σ H x v Q I L h
 obtain⟨i,rfl,q⟩:=h
 obtain⟨t,rfl⟩:=L
 exact rule i t s _ _ ⟨.int (g i),H,.g6,.al,q⟩
theorem Ot:Q7 X (unaryOp .USub) (rU fun i=>.int (-i)):=UC fun _ _ _ _ _ q=>neg_int q
end
section
variable {X:Cx}{a b c:Expr}{ta tb tc:TE}{pos:Pos}
theorem Ha {pins:.v}{σ:St}{H:Hp}{s:Shared}{Q:VK}{k g:Bool}(I:.u)(q:Q (.bl k) H)(e:k=g):EP X pins σ Q (.bool g) s:=by
 subst e
 exact⟨.bl k,H,I,rfl,q⟩
theorem Qj:pP X (.ae .Lt) (.a5 (i<j)):=KS fun _ _ _ _ _ _ _ q=>lt_int q
theorem Qi:pP X (compareOp .LtE) (.a5 (i≤j)):=KS fun _ _ _ _ _ _ _ q=>le_int q
theorem Qh:pP X (.ae .Gt) (.a5 (j<i)):=KS fun _ _ _ _ _ _ _ q=>gt_int q
theorem Qg:pP X (compareOp .GtE) (.a5 (j≤i)):=KS fun _ _ _ _ _ _ _ q=>ge_int q
theorem Nu:pP X (.ae .Is) (fun x y H Q=>y=.non/\Q (.aA (x=.non)) H):=by
 intro pins s σ H x y v u Q I L Z h
 obtain⟨rfl,q⟩:=h
 cases Z
 refine is_none_gen (Ha I q ?_)
 cases x<;>first
  |(cases L;rfl)
  |(obtain⟨t,rfl⟩:=L;rfl)
theorem KY:pP X (compareOp .IsNot) (fun x y H Q=>y=.non/\Q (.bl (!decide (x=.non))) H):=by
 intro pins s σ H x y v u Q I L Z h
 obtain⟨rfl,q⟩:=h
 cases Z
 refine isnot_none_gen (Ha I q ?_)
 cases x<;>first
  |(cases L;rfl)
  |(obtain⟨t,rfl⟩:=L;rfl)
theorem bw (b:Expr){i:CmpOp}(h:i≠.In:=by decide)(h2:i≠.NotIn:=by decide):behindInMarks i b=false:=by
 have e1:(i == CmpOp.In)=false:=by cases i<;>first | rfl | exact absurd rfl h
 have e2:(i == CmpOp.NotIn)=false:=by cases i<;>first | rfl | exact absurd rfl h2
 cases b<;>simp [behindInMarks,e1,e2]
theorem K5 {i:CmpOp}{r:R2}(ho:pP X (.ae i) r)(ha:.gt)(hb:PE X b tb)(hm:behindInMarks i b=false):PE X .gK (QU r ta tb):=by
 intro pins s σ H Q I h
 exact wpAny_Compare1 (MD ha hb I h fun v u s2 x y H2 K L Z q=>ho pins s2 σ H2 x y v u Q K L Z q) hm
def Mq (t:TE):TT:=fun σ H Q=>t σ H fun x H'=>∃k,x=.bl k/\Q k H'
theorem Lf {i:CmpOp}{r:R2}(ho:pP X (.ae i) r)(ha:.gt)(hb:PE X b tb)(hm:behindInMarks i b=false):PT X .gK (Mq (QU r ta tb)):=by
 intro pins s σ H Q I h
 refine wpAny_isTrue_Compare1 (df .bb fun v s1 .ay=>df .gl fun u s2 ⟨y,H2,K,r2,q2⟩ =>
  df .fP fun c w ⟨z,P,A,r3,k,e,q3⟩=>?_) hm
 subst e
 cases r3
 exact wpAny_truthy_bool ⟨P,A,q3⟩
noncomputable def CL (r B:R2)(ta tb tc:TE):TE:=fun σ H Q=>ta σ H fun x H1=>tb σ H1 fun y H2=>r x y H2 fun z P=>∃k,z=.bl k /\
 (if k=true then tc σ P fun D S=>B y D S Q else Q .U P)
theorem IB {i l:CmpOp}{r B:R2}(ho:pP X (.ae i) r)(f:pP X (.ae l) B)(ha:.gt)(hb:PE X b tb)(U:PE X c tc)
  (hm:lastMarks [i,l] [b,c]=false:=by with_unfolding_all rfl):PE X .fH (CL r B ta tb tc):=by
 intro pins s σ H Q I h
 refine Compare_chain (df .bb fun v s1 .ay=>chain_link (df .gl fun u s2 ⟨y,H2,K,r2,q2⟩ =>
  df .fP fun d w ⟨z,P,A,r3,k,e,q3⟩=>?_)) hm
 subst e
 cases r3
 refine wpAny_truthy_bool ?_
 cases k with
 |false=>exact ite_ff ⟨.bl false,P,A,rfl,q3⟩
 |true=>exact ite_tt (chain_last (df (U pins w σ P _ A q3) fun D C ⟨Z,S,t,r4,q4⟩=>f pins C σ S y Z u D Q t r2 r4 q4))
theorem IS {i l:CmpOp}{r B:R2}(ho:pP X (.ae i) r)(f:pP X (.ae l) B)(ha:.gt)(hb:PE X b tb)(U:PE X c tc)
  (hm:lastMarks [i,l] [b,c]=false:=by with_unfolding_all rfl):PT X .fH (Mq (CL r B ta tb tc)):=by
 intro pins s σ H Q I h
 refine isTrue_chain (df .bb fun v s1 .ay=>test_link (df .gl fun u s2 ⟨y,H2,K,r2,q2⟩ =>
  df .fP fun d w ⟨z,P,A,r3,k,e,q3⟩=>?_)) hm
 subst e
 cases r3
 refine wpAny_truthy_bool ?_
 cases k with
 |false =>
  obtain⟨g,j,T⟩:=q3
  cases j
  exact ite_ff ⟨P,A,T⟩
 |true =>
  refine ite_tt (test_last (df (U pins w σ P _ A q3) fun D C ⟨Z,S,t,r4,q4⟩=>df (f pins C σ S y Z u D _ t r2 r4 q4) fun d' s5 ⟨R,V,G,r5,k2,e2,q5⟩=>?_))
  subst e2
  cases r5
  exact wpAny_truthy_bool ⟨V,G,q5⟩
noncomputable def Mx (K:.l)(x:V)(H:Hp)(k:Bool):Prop:=
 match x with
 | .non=>k=false
 | .bl b=>k=b
 | .int i=>k=(i != 0)
 | .str y=>y.length≤sizeLine/\k=((y.length:Int) != 0)
 | .byt y=>y.size≤sizeLine/\k=((y.size:Int) != 0)
 | .ref p=>(∃xs,gE K H p xs/\k = !xs.isEmpty)\/(∃xs,nv K H p xs/\k = !xs.isEmpty)\/∃kvs,H p=some .ba/\k = !kvs.isEmpty
 |_=>False
theorem B8 {κ:Type}{kvs:.ez}{vs:.gH}(r:KV kvs vs):(!vs.isEmpty) = !kvs.isEmpty:=by
 cases r<;>rfl
theorem ti {xs:List V}{G:.S}(r:Vals xs G):(!G.toArray.isEmpty) = !xs.isEmpty:=by
 cases r<;>simp
theorem p9:(sizeLine:Nat)<2^63:=by rw [sizeLine_eq];decide
theorem Ol:R6 X (fun x H Q=>∃k,Mx X.K x H k/\Q k H):=by
 intro pins s σ H x v Q I L h
 obtain⟨k,e,q⟩:=h
 have hs:=sizeLine_eq
 cases x with
 |non =>
  cases L
  have j:=e
  subst j
  exact truthy_none ⟨H,I,q⟩
 |bl b =>
  cases L
  have j:=e
  subst j
  exact wpAny_truthy_bool ⟨H,I,q⟩
 |int i =>
  obtain⟨t,rfl⟩:=L
  have j:=e
  subst j
  exact PySem.P.truthy_int ⟨H,I,q⟩
 |str y =>
  obtain⟨t,rfl⟩:=L
  obtain⟨R,j⟩:y.length≤sizeLine/\k=((y.length:Int) != 0):=e
  subst j
  exact PySem.P.truthy_str .e ⟨H,.g6,q⟩
 |byt y =>
  obtain⟨t,rfl⟩:=L
  obtain⟨R,j⟩:y.size≤sizeLine/\k=((y.size:Int) != 0):=e
  subst j
  exact PySem.W.truthy_bytes .e ⟨H,.g6,q⟩
 |ref p =>
  cases L
  have j:=e
  rcases j with ⟨xs,hx,j⟩ | ⟨xs,hx,j⟩ | ⟨kvs,hx,j⟩
  ·subst j
   obtain⟨G,r,pl,hz⟩:=I.list hx
   have hlen:=r.length
   exact wpAny_truthy_list pl.isList (by simp only [List.size_toArray];omega) ⟨H,I.tok _,by rw [ti r];exact q⟩
  ·subst j
   obtain⟨G,r,pl,hz⟩:=I.tuple hx
   have hlen:=r.length
   exact truthy_tuple pl (by simp only [List.size_toArray];omega) ⟨H,I.tok _,by rw [ti r];exact q⟩
  ·subst j
   obtain⟨hz,hS,vs,r,m⟩:kvs.length≤sizeLine/\(p == sysModules)=false/\∃vs,KV kvs vs/\s.heap.DictOf _ p vs:=I.hok p _ hx
   have hlen:=Paired.length r
   exact wpAny_truthy_dict hS m .e ⟨H,I.tok _,by rw [B8 r];exact q⟩
 |_=>exact (e).elim
theorem IT (ha:.gt)(he:∀whole,isTrue a X.env whole=(do let v <- whole;standAt a.pos;holding [v] (truthy v))):
  PT X a (fun σ H Q=>ta σ H fun x H'=>∃k,Mx X.K x H' k/\Q k H'):=by
 intro pins s σ H Q I h
 exact isTrue_plain (df .bb fun v s1 .ay=>Ol pins s1 σ H1 x v Q O r1 q1) (he _)
theorem Cw:pP X .gX (fun x y H Q=>∃i j,x=.str i/\y=.str j/\i.length+j.length≤sizeLine/\Q (.str (i++j)) H):=by
 intro pins s σ H x y v u Q I L Z h
 obtain⟨i,j,rfl,rfl,hz,q⟩:=h
 obtain⟨t,rfl⟩:=L
 obtain⟨t',rfl⟩:=Z
 exact add_str (fun t' tk=>⟨.str (i++j),H,I.tok _,.al,q⟩) hz
theorem vals1 {x:V}{us:.S}(r:Vals [x] us):∃u,us=[u]/\RelV x u:=by
 cases r with
 |cons r1 r2=>cases r2;exact⟨_,rfl,r1⟩
theorem vals2 {x y:V}{us:.S}(r:Vals [x,y] us):∃u D,us=[u,D]/\RelV x u/\RelV y D:=by
 cases r with
 |cons r1 r2 =>
  cases r2 with
  |cons r3 r4=>cases r4;exact⟨_,_,rfl,r1,r3⟩
theorem GJ:gk X (.builtin "abs") (fun xs H Q=>∃i,xs=[.int i]/\Q (.af (if i<0 then -i else i)) H):=by
 intro pins s σ H xs us Q I r h
 obtain⟨i,rfl,q⟩:=h
 obtain⟨u,rfl,t,rfl⟩:=vals1 r
 exact call_abs_int fun u tk=>⟨.int _,H,I.tok _,.al,q⟩
theorem EO (U:.bt):gk X (.builtin "min") (fun xs H Q=>∃i j,xs=[.int i,.int j]/\Q (.af (if j<i then j else i)) H):=by
 intro pins s σ H xs us Q I r h
 obtain⟨i,j,rfl,q⟩:=h
 obtain⟨u,D,rfl,⟨t,rfl⟩,⟨t',rfl⟩⟩:=vals2 r
 refine min_two_ints .cX fun h' tk k=>⟨_,H,I.kept k,?_,q⟩
 by_cases S:j<i
 ·rw [if_pos S,if_pos S];exact⟨_,rfl⟩
 ·rw [if_neg S,if_neg S];exact⟨_,rfl⟩
theorem EL:gk X (.type "int") (fun xs H Q=>(∃i,xs=[.int i]/\Q .eA H)\/∃k,xs=[.bl k]/\Q (.af (if k then 1 else 0)) H):=by
 intro pins s σ H xs us Q I r h
 rcases h with ⟨i,rfl,q⟩ | ⟨k,rfl,q⟩
 ·obtain⟨u,rfl,t,rfl⟩:=vals1 r
  exact call_int_int ⟨.int i,H,I,.al,q⟩
 ·obtain⟨u,rfl,r1⟩:=vals1 r
  cases r1
  exact call_int_bool ⟨.int _,H,.g6,.al,q⟩
theorem xu:gk X (.type "str") (fun xs H Q=>∃i,xs=[.int i]/\i.natAbs.log2<1920/\Q (.str (toString i)) H):=by
 intro pins s σ H xs us Q I r h
 obtain⟨i,rfl,hz,q⟩:=h
 obtain⟨u,rfl,t,rfl⟩:=vals1 r
 exact PySem.P.str_of_int hz ⟨.str _,H,.g6,.al,q⟩
end
structure Bw (h:Heap)(x dx C:Addr)(mA:.H):Prop where
 obj:h.get? x=some (PySem.W.instObj C dx)
 ns:h.Ns1 dx mA
 ne:dx≠x
theorem Ft {h:Heap}{dx:Addr}{mA:.H}(n:h.Ns1 dx mA):∃od,h.get? dx=some od/\∀name,PySem.W.lookIn name od=some (mA name):=by
 obtain⟨o,es,ep,ho,hd,hk,_,hm⟩:=n
 refine⟨o,ho,fun name=>?_⟩
 have e:=hm name
 unfold nsFind findBy at e
 rw [<- Array.find?_toList] at e
 unfold PySem.W.lookIn
 rw [hd]
 dsimp only
 split
 ·rename_i y q
  rw [q] at e
  exact congrArg some e
 ·rename_i q
  rw [q] at e
  have a:es.toList.any (·.refKey)=false:=by
   rw [List.any_eq_false]
   intro y R
   obtain⟨z,t,g⟩:=hk y (Array.mem_toList_iff.mp R)
   simp [DictEntry.refKey,g]
  have f:¬ es.toList.any (·.refKey)=true:=by rw [a];exact zaR
  rw [if_neg f]
  exact congrArg some e
theorem Bw.look {h:Heap}{x dx C:Addr}{mA:.H}(I:Bw h x dx C mA):∃od,PySem.W.InstAt h x (PySem.W.instObj C dx) C (some od)/\∀name,PySem.W.lookIn name od=some (mA name):=
 let ⟨od,ho,hl⟩:=Ft I.ns
 ⟨od,⟨I.obj,rfl,rfl,ho⟩,hl⟩
section
variable {prog:.ah}{w:World}{A:Around}{E:.o}{s:Shared}{K:.l}{x dx C f:Addr}{mA:.H}{name:Str}{v:Value}
theorem get_map {expr:Bool}{Q:.o}(X:K.In s.heap)(I:Bw s.heap x dx C mA)(M:PySem.W.plainGet K C name=true)(S:PySem.W.hasDictIn K C=true)
  (ha:PySem.W.findIn K (.c C) name=some none) (N:mA name=some v) (d:PySem.W.handedIn v=true) (h:Q v { s with toks:=s.toks+1 }):
  wpAny .Q A (getAttr (.c x) name expr) Q E s:=by
 obtain⟨od,J,hl⟩:=I.look
 exact PySem.W.get_value X J (zbY M).1 (PySem.W.findObj_own S ha rfl (by rw [hl,N])) d h
theorem Hr {pl:Sem Bool}{Q:Value×List Value->Shared->Prop}(X:K.In s.heap)(I:Bw s.heap x dx C mA)(M:PySem.W.plainGet K C name=true)
  (hf:PySem.W.findIn K (.c C) name=some (.U f)) (Y:PySem.W.isFn K (.c f)=true) (N:mA name=none) (h:Q (.ref f,[.ref x]) s):
  wpAny .Q A (getMethod (.c x) name pl) Q E s:=by
 obtain⟨od,J,hl⟩:=I.look
 exact PySem.W.method_fn X J (zbY M).1 (zbY M).2 hf (beq_iff_eq.mp Y) (by show (PySem.W.lookIn name od).map _=some false;rw [hl,N];rfl) h
theorem Lp {ns:.V}{Q:.dI}(X:K.In s.heap)(I:Bw s.heap x dx C mA)
  (hs:PySem.W.findIn K (.c C) "__setattr__" = some (some (.builtin "object.__setattr__"))) (hp:PySem.W.plainOver K C=true) (Y:PySem.W.takerIn K C name=some none) (S:PySem.W.hasDictIn K C=true)
  (L:PySem.Within mA ns) (hsz:ns.length≤sizeLine)
  (h:∀h',Bw h' x dx C (fun y=>if y=name then some v else mA y)->Heap.SameBut dx s.heap h'->Q () { s with heap:=h',toks:=s.toks+2 }):
  wpAny .Q A (setAttr (.c x) name v) Q E s:=by
 obtain⟨od,J,hl⟩:=I.look
 refine PySem.W.set_plain X J hs (PySem.W.osa_open X J hp Y fun b=>?_)
 obtain⟨cd,U,j⟩:=PySem.W.any_some S
 have hx:=I.obj
 refine .f (.aU (.G (wpAny_bind (wpAny_loadPart hx (wpAny_bind (PySem.W.Looks.here (PySem.W.looks_clsIn X U) ?_))))))
 rw [j]
 refine .ao (.G (.aU (wpAny_bind ?_)))
 refine wpAny_nsSet1 I.ns fun h' t n=>?_
 obtain⟨k,g,i,c,d,e⟩:=t.count (PySem.Within.cons name v L)
 refine wpAny_bind (wpAny_lookBehind c (by rw [d];exact pastItsLine_dict (zaG e (by rw [zaj];omega))) ?_)
 exact .ao (h _ ⟨(n.2 _ (Ne.symm I.ne)).trans I.obj,t,I.ne⟩ n)
theorem HN {R:.dR}{vs:.S}{kw:.d5}(X:K.In s.heap)(hm:PySem.W.makesIn K C=true)
  (hi:PySem.W.findIn K (.c C) "__init__" = some (.U f)) (hf:PySem.W.typeIn K (.c f)=some (.type "function"))
  (h:codeAny .Q (A.under (.builtin "type.__call__" ⟨.ref C::vs,kw⟩)) (.call (.c f) ⟨.ref .a3::vs,kw⟩) (PySem.W.InitBack .a3 R)
   { s with heap:=(s.heap.push PySem.W.emptyDict).push .dW }):
  codeAny .Q A (.call (.c C) ⟨vs,kw⟩) R s:=by
 exact PySem.W.make_core (PySem.W.makes_of X hm) (PySem.W.looks_findIn X hi) (fun self=>PySem.W.bind_fn X self hf) .bM h
end
noncomputable def kM (f:Str)(v:V):List (Str×V)->List (Str×V)
 |[]=>[(f,v)]
 |(g,x)::r=>if g=f then (g,v)::r else (g,x)::kM f v r
theorem qI (f g:Str)(v:V):∀fs:List (Str×V),(kM f v fs).lookup g=if g=f then some v else fs.lookup g
 |[]=>by
  show List.lookup g [(f,v)]=_
  by_cases h:g=f
  ·have hb:=beq_iff_eq.mpr h
   simp only [List.lookup,hb,if_pos h]
  ·have hb:=beq_eq_false_iff_ne.mpr h
   simp only [List.lookup,hb,if_neg h]
 |(k,x)::r=>by
  rw [show kM f v _=.e9 from rfl]
  by_cases hk:k=f
  ·rw [if_pos hk]
   by_cases h:g=k
   ·have hb:=beq_iff_eq.mpr h
    simp only [List.lookup,hb,.ap (h.trans hk)]
   ·have hb:=beq_eq_false_iff_ne.mpr h
    simp only [List.lookup,hb,if_neg (fun e:g=f=>h (e.trans hk.symm))]
  ·rw [if_neg hk]
   by_cases h:g=k
   ·have hb:=beq_iff_eq.mpr h
    simp only [List.lookup,hb,if_neg (fun e:g=f=>hk (h.symm.trans e))]
   ·have hb:=beq_eq_false_iff_ne.mpr h
    simp only [List.lookup,hb]
    exact (qI f g v r)
theorem p7 (f:Str)(v:V):∀fs:List (Str×V),f∈(kM f v fs).map (·.1)/\∀g,g∈fs.map (·.1)->g∈(kM f v fs).map (·.1)
 |[]=>⟨by simp [kM],fun g h=>by simp at h⟩
 |(k,x)::r=>by
  obtain⟨i1,i2⟩:=p7 f v r
  rw [show kM f v _=.e9 from rfl]
  by_cases hk:k=f
  ·subst hk
   exact⟨.h,fun g h=>by simpa using h⟩
  ·rw [if_neg hk]
   refine⟨?_,fun g h=>?_⟩
   ·exact zae _ i1
   ·rcases zao.mp h with e | e
    ·exact zao.mpr (.inl e)
    ·exact zae _ (i2 g e)
theorem qH (f:Str)(v:V):∀fs:List (Str×V),(kM f v fs).length≤fs.length+1
 |[]=>by simp [kM]
 |(k,x)::r=>by
  have A:=qH f v r
  rw [show kM f v _=.e9 from rfl]
  by_cases hk:k=f
  ·rw [if_pos hk,zaj,zaj];omega
  ·rw [if_neg hk,zaj,zaj];omega
theorem nk.some_of {v:V}{o:.dC}(r:nk .di o):∃u,o=some u/\RelV v u:=by
 cases o with
 |none=>exact (r).elim
 |some u=>exact⟨u,rfl,r⟩
theorem nk.none_of {o:.dC}(r:nk none o):o=none:=by
 cases o with
 |none=>rfl
 |some u=>exact (r).elim
theorem Fj {v:V}{u:Value}(r:RelV v u):PySem.W.handedIn u=true:=by
 cases v with
 |non=>cases (r);rfl
 |bl b=>cases (r);rfl
 |int i=>obtain⟨t,e⟩:=(r);cases e;rfl
 |str x=>obtain⟨t,e⟩:=(r);cases e;rfl
 |byt b=>obtain⟨t,e⟩:=(r);cases e;rfl
 |flt b=>obtain⟨t,e⟩:=(r);cases e;rfl
 |ref a=>cases (r);rfl
 |ty n=>cases (r);rfl
section
variable {P:.ah}{w:World}{H H':Hp}{h h':Heap}{a C dx:Addr}{fs fs':List (Str×V)}
theorem oV (hok:.e0)(e:.hS):∃mA,Bw h a dx C mA/\(∀f,nk (fs.lookup f) (mA f))/\PySem.Within mA (fs.map (·.1))/\fs.length≤1000/\H dx=some (.own a):=by
 obtain⟨d,z,ne,ob,mA,n,r,q⟩:=(hok a _ e)
 exact⟨mA,⟨ob,n,ne⟩,r,q,z,d⟩
end
structure eV (K:.l)(C:Addr):Prop where
 pg:PySem.W.plainGet K C Str.empty=true
 hd:PySem.W.hasDictIn K C=true
 po:PySem.W.plainOver K C=true
 sa:PySem.W.findIn K (.c C) "__setattr__" = some (some (.builtin "object.__setattr__"))
theorem eV.get {K:.l}{C:Addr}(c:eV K C)(f:Str):PySem.W.plainGet K C f=true:=c.pg
def bo (K:.l)(C:Addr)(f:Str):Prop:=PySem.W.findIn K (.c C) f=some none
theorem bo.taker {K:.l}{C:Addr}{f:Str}(n:bo K C f):PySem.W.takerIn K C f=some none:=by
 unfold PySem.W.takerIn
 rw [n]
 rfl
structure Meth (K:.l)(C:Addr)(m:Str)(f:Addr):Prop where
 at_:PySem.W.findIn K (.c C) m=some (.U f)
 fn:PySem.W.isFn K (.c f)=true
 kp:PySem.W.keepIn K (.c f)=true
section
variable {X:Cx}{pins:.v}{σ:St}{H:Hp}{s:Shared}{a C dx:Addr}{fs:List (Str×V)}{f:Str}{v:V}{A:Around}{E:.o}
theorem B3 {b:Bool}{Q:.o}(I:.u)(e:.hS)(c:eV X.K C)(n:bo X.K C f)(l:fs.lookup f=some v)
  (h:∀u s',Inv X pins σ H s'->RelV v u->Q u s'):wpAny .t A (getAttr (.c a) f b) Q E s:=by
 obtain⟨mA,O,r,_,_,_⟩:=oV I.hok e
 obtain⟨u,hu,W⟩:=nk.some_of (by rw [<- l];exact r f)
 exact get_map I.kIn O (c.get f) c.hd n hu (Fj W) (h u _ (I.tok _) W)
theorem sZ {m:Str}{g:Addr}{pl:Sem Bool}{Q:Value×List Value->Shared->Prop}(I:.u)(e:.hS)(c:eV X.K C)(k:Meth X.K C m g)(l:fs.lookup m=none)
  (h:Q (.ref g,[.ref a]) s):wpAny .t A (getMethod (.c a) m pl) Q E s:=by
 obtain⟨mA,O,r,_,_,_⟩:=oV I.hok e
 have hn:=nk.none_of (by rw [<- l];exact r m)
 exact Hr I.kIn O (c.get m) k.at_ k.fn hn h
theorem CG {y:V}{u:Value}{Q:.dI}(I:.u)(e:.hS)(c:eV X.K C)(n:bo X.K C f)(hl:fs.length<1000)(Z:RelV y u)
  (h:∀s',Inv X pins σ (.aj a (.ax (kM f y fs))) s'->Q () s'):wpAny .t A (setAttr (.c a) f u) Q E s:=by
 obtain⟨mA,O,r,d,_,ho⟩:=oV I.hok e
 have hz:(fs.map (·.1)).length≤sizeLine:=by rw [zaf,sizeLine_eq];omega
 refine Lp I.kIn O c.sa c.po n.taker c.hd d hz fun h' i N=>h _ ?_
 have hd:∃o,h'.get? dx=some o:=let ⟨o,_,_,j,_⟩:=i.ns;⟨o,j⟩
 refine I.write .fF (.inr ho) (fun b q hb z=>(N.2 b hb).trans z) hd ?_
 refine⟨by rw [ay O.ne];exact ho,?_,O.ne,i.obj,_,i.ns,fun g=>?_,fun g M=>?_⟩
 ·have:=qH f y fs;omega
 ·rw [qI]
  by_cases q:g=f
  ·rw [if_pos q,if_pos q];exact Z
  ·rw [if_neg q,if_neg q];exact r g
 ·by_cases q:g=f
  ·rw [q];exact (p7 f y fs).1
  ·refine (p7 f y fs).2 g (d g fun z=>M ?_)
   show (if g=f then some u else mA g)=none
   rw [if_neg q];exact z
theorem Inv.made (I:.u):Inv X pins σ (upd (.O (.own .a3)) .a3 (.ins C s.heap.objs.size []))
  { s with heap:=(s.heap.push PySem.W.emptyDict).push .dW }:=by
 have e1:(s.heap.push PySem.W.emptyDict).get? s.heap.objs.size=some PySem.W.emptyDict:=Heap.get?_push_size s.heap rfl
 have e2:((s.heap.push PySem.W.emptyDict).push .dW).get? .a3=some .dW:=by
  have:=Heap.get?_push_size (s.heap.push PySem.W.emptyDict) (o:=PySem.W.instObj C s.heap.objs.size) rfl
  rwa [Heap.size_push] at this
 have e3:(s.heap.push PySem.W.emptyDict).Ns s.heap.objs.size _:=⟨PySem.W.emptyDict,#[],_,e1,rfl,(fun e he=>absurd he .h),fun _=>rfl⟩
 have O:=I.laid (o:=.own .a3) (t':=s.toks) (fun b u q=> .bD) .b8 ⟨_,e1⟩
 refine O.laid (fun b u q=> .bD) (Nat.le_of_eq (Heap.size_push _ _)) ?_
 have ne:s.heap.objs.size≠s.heap.objs.size+1:=zat (zbg _)
 refine⟨by rw [ay ne,aM],za4 _,ne,e2,fun _=>none,(Heap.Ns1.of_empty e3).at fun o q=>Heap.get?_push_of_some _ q,fun _=>True.intro,fun y R=>absurd rfl R⟩
theorem JK {prog:.ah}{w:World}{env:Env}{e:Expr}{f:Str}{pos:Pos}{s:Shared}{Q:.o}(hb:attributeBase e f env (eval e env)=eval e env)
  (h:wpAny .Q A (eval e env) (fun o g=>wpAny .Q A (getAttr o f true) Q E g) E s):wpAny .Q A (eval (.Attribute e f pos) env) Q E s:=
 Attribute_any_ h (by rw [arm_eval_Attribute,hb])
end
noncomputable def Ta (K:.l)(ta:TE)(f:Str):TE:=fun σ H Q=>ta σ H fun x H1=>∃a C dx fs v,x=.ref a/\H1 a=some (.ax fs)/\eV K C/\bo K C f/\fs.lookup f=some v/\Q v H1
noncomputable def S6 (K:.l)(ta tv:TE)(f:Str):TS:=fun D σ H=>tv σ H fun y H1=>ta σ H1 fun x H2=>∃a C dx fs,x=.ref a/\H2 a=some (.ax fs)/\eV K C/\bo K C f/\fs.length<1000 /\
 D.nx σ (upd H2 a (.ax (kM f y fs)))
section
variable {X:Cx}{o e value:Expr}{f:Str}{pos pos' tpos:Pos}{ta tv:TE}
theorem ND (he:PE X e ta)(hb:attributeBase e f X.env (.Z e)=eval e X.env):PE X (.Attribute e f pos) (Ta X.K ta f):=by
 intro pins s σ H Q I h
 refine JK hb (df .cs fun u s1 ⟨x,H1,O,L,a,C,dx,fs,v,ex,d,c,n,l,q⟩=>?_)
 subst ex
 obtain rfl:u=Value.ref a:=L
 exact B3 O d c n l fun w s2 K W=>⟨v,H1,K,W,q⟩
theorem NT (ha:PE X o ta)(N:PE X value tv)(hs:swapsWith value (some (.Attribute o f pos')) pos.line X.env=pure false):PS X (.Assign [.Attribute o f pos'] value pos) (S6 X.K ta tv f):=by
 intro pins s σ H D I h
 refine plainObj_wpAny_Assign_Attribute (df (N pins s σ H _ I h) fun u s1 ⟨y,H1,O,Z,q⟩=>df (ha pins s1 σ H1 _ O q) fun z s2 ⟨x,H2,K,L,a,C,dx,fs,ex,d,c,n,l,q2⟩=>?_) hs
 subst ex
 obtain rfl:z=Value.ref a:=L
 exact CG K d c n l Z fun w A=>⟨σ,_,A,q2⟩
end
section
variable {X:Cx}{pins:.v}{σ:St}{H:Hp}{s:Shared}{A:Around}{E:.o}{Q:.o}{c:Value}{b:Bool}
inductive qO (K:.l) (H:Hp):V->Value->Prop where
 |non:qO K H .non (.type "NoneType")
 |bl (x:Bool):qO K H (.bl x) (.type "bool")
 |int (i:Int):qO K H .eA (.type "int")
 |str (x:Str):qO K H .fG (.type "str")
 |flt (x:UInt64):qO K H (.flt x) (.type "float")
 |lst {a:Addr} {xs:List V} (e:H a=some .eJ):qO K H (.c a) .hJ
 |frz {a:Addr} {o:Obj} {xs:List V} (e:H a=some (.frz o .eJ)):qO K H (.c a) .hJ
 |tup {a:Addr} {xs:List V} (e:H a=some .fv):qO K H (.c a) (.type "tuple")
 |dK {a:Addr} {kvs:.bW} (e:H a=some .ba):qO K H (.c a) (.type "dict")
 |dT {a:Addr} {kvs:.dJ} (e:H a=some (.dT kvs)):qO K H (.c a) (.type "dict")
 |ins {a C dx:Addr} {fs:List (Str×V)} (e:.hS) (cl:eV K C) (ha:PySem.W.findIn K (.c C) "__class__" = some (some .cV))
   (hn:PySem.W.specialIn K .cV "__get__" = some (some (.builtin "getset_descriptor.__get__"))) (htk:PySem.W.takesIn K .cV=some true)
   (hm:PySem.W.mroIn K C (.type "object")=some true):qO K H (.c a) (.c C)
theorem Fp {x:V}{u t:Value}(I:.u)(L:RelV x u)(ty:qO X.K H x t)(e:PySem.W.kitOne X.K t c=some b)(h:∀tk,Q (.bool b) { s with toks:=tk }):
  wpAny .t A (call .g2 [u,c]) Q E s:=by
 cases ty with
 |non=>cases (L);exact zaO PySem.W.kitx_none I.kIn True.intro e .bo h
 |bl y=>cases (L);exact zaO PySem.W.kitx_bool I.kIn True.intro e .bo h
 |int i=>obtain⟨t,q⟩:=(L);cases q;exact zaO PySem.W.kitx_int I.kIn True.intro e .bo h
 |str y=>obtain⟨t,q⟩:=(L);cases q;exact zaO PySem.W.kitx_str I.kIn True.intro e .bo h
 |flt y=>obtain⟨t,q⟩:=(L);cases q;exact zaO PySem.W.kitx_float I.kIn True.intro e .bo h
 |@lst a xs d =>
  cases (L)
  obtain⟨_,_,n,_,h1⟩:=(I.hok a _ d)
  exact zaO zbL I.kIn ⟨_,h1,rfl⟩ e .bo h
 |@frz a ob xs d =>
  cases (L)
  obtain⟨_,_,_,n,_,h1⟩:=(I.hok a _ d)
  exact zaO zbL I.kIn ⟨_,h1,rfl⟩ e .bo h
 |@tup a xs d =>
  cases (L)
  obtain⟨_,_,_,p⟩:=(I.hok a _ d)
  obtain⟨o,h1,h2,_⟩:=p
  exact zaO PySem.W.kitx_tuple I.kIn ⟨o,h1,h2⟩ e .bo h
 |@dK a kvs d =>
  cases (L)
  obtain⟨_,_,vs,_,p⟩:=(I.hok a _ d)
  obtain⟨o,es,ep,h1,h2,_⟩:=p
  exact zaO zb9 I.kIn ⟨o,h1,h2.1⟩ e .bo h
 |@dT a kvs d =>
  cases (L)
  obtain⟨_,_,xs,_,o,es,ep,h1,h2,_⟩:=(I.hok a _ d)
  exact zaO zb9 I.kIn ⟨o,h1,h2.1⟩ e .bo h
 |@ins a C dx fs d cl ha hn htk hm =>
  cases (L)
  obtain⟨mA,O,_⟩:=oV I.hok d
  obtain⟨od,J,_⟩:=O.look
  exact zaO (PySem.W.kitx_own (cl.get _) cl.hd ha hn htk hm) I.kIn J e .bo h
end
structure ff (k:Nat)(A:Around):Prop where
 hd:A.handled=none
 dp:A.depth+3*k+5<recursionLimit
 un:A.units+16*k+200<cLine
theorem ff.mono {j k:Nat}{A:Around}(r:ff k A)(h:j≤k):ff j A:=⟨r.hd,by have:=r.dp;omega,by have:=r.un;omega⟩
theorem ff.deeper {k:Nat}{A:Around}(r:ff (k+1) A)(env:Env):ff k (A.deeper env):=
 ⟨r.hd,by have:=r.dp;show A.depth+1+3*k+5<_;omega,by have:=r.un;show A.units+3+16*k+200<_;omega⟩
theorem Cn {A:Around}{C:Addr}{us:.S}{kw:.d5}:(A.under .cW).depth=A.depth+1:=by
 first | rfl | simp [Code.weight]
theorem Co {A:Around}{C:Addr}{us:.S}{kw:.d5}:(A.under .cW).units=A.units+1:=by
 first | rfl | simp [Code.cUnits]
theorem ff.make {k:Nat}{A:Around}(r:ff (k+1) A)(C:Addr)(us:.S)(kw:.d5):ff k (A.under .cW):=
 ⟨r.hd,by have:=r.dp;rw [Cn];omega,by have:=r.un;rw [Co];omega⟩
theorem ff.depth {k:Nat}{A:Around}(r:ff k A):A.depth<recursionLimit:=by have:=r.dp;omega
theorem ff.units {k:Nat}{A:Around}(r:ff k A):A.units+64<cLine:=by have:=r.un;omega
def QS:TA:=fun _ H Q=>Q [] H
def QN (ta:TE)(tr:TA):TA:=fun σ H Q=>ta σ H fun x H1=>tr σ H1 fun xs H2=>Q (x::xs) H2
section
variable {X:Cx}{e:Expr}{es:.av}{te:TE}{t:TA}{pos:Pos}
theorem qg:PA X [] QS:=fun _ _ _ _ H Q I h=>Calls.spliced_nil ⟨[],H,I,.nil,h⟩
theorem jw (ha:PE X e te)(hr:PA X es t)(hs:starEach (e::es) X.env=(.m e)::starEach es X.env:=by rfl):PA X (e::es) (QN te t):=by
 intro pos pins s σ H Q I h
 rw [hs]
 refine Calls.spliced_cons (df .bb fun u s1 .ay=>?_)
 exact df (hr pos pins s1 σ H1 _ O q1) fun us s2 ⟨xs,H2,K,r2,q2⟩=>⟨x::xs,H2,K,.cons r1 r2,q2⟩
noncomputable def Tj (t:TA):TE:=fun σ H Q=>t σ H fun xs H1=>xs.length≤sizeLine/\∀p,H1 p=none->Q (.c p) (upd H1 p .fv)
noncomputable def Td (t:TA):TE:=fun σ H Q=>t σ H fun xs H1=>xs.length≤sizeLine/\∀p,H1 p=none->Q (.c p) (upd H1 p .eJ)
theorem NL {w}(h:PA X es t):PE X (.Tuple es w pos) (Tj t):=by
 intro pins s σ H Q I hq
 refine wpAny_Tuple_spliced (df (h pos pins s σ H _ I hq) fun us s1 ⟨xs,H1,O,r,z,q⟩=>⟨by rw [<- r.length];exact z,?_⟩)
 have hf:=O.hok.fresh .b8
 refine⟨.ref s1.heap.objs.size,upd H1 s1.heap.objs.size _,O.laid (fun b u e=> .cK) .b8 ?_,rfl,q _ hf⟩
 exact⟨z,us,r,⟨_,.ac,rfl,_,rfl⟩⟩
theorem IE (h:PA X es t):PE X (.List es pos) (Td t):=by
 intro pins s σ H Q I hq
 refine wpAny_List_spliced (df (h pos pins s σ H _ I hq) fun us s1 ⟨xs,H1,O,r,z,q⟩=>⟨by rw [<- r.length];exact z,?_⟩)
 have hf:=O.hok.fresh .b8
 refine⟨.ref s1.heap.objs.size,upd H1 s1.heap.objs.size _,O.laid (fun b u e=> .cK) .b8 ?_,rfl,q _ hf⟩
 exact⟨z,us,0,r,Heap.get?_push_size _ rfl⟩
end
abbrev Sp:=List V->Hp->VK->XK->Prop
abbrev ED:=List Env->Hp->Shared->XK->Value->Shared->Prop
structure Bu (P:.ah)(w:World)(K:.l)(mg:.H)(base:Heap)(A:Around)(outer:.eW)(s:Shared)(H:Hp):Prop where
 frames:A.frames=some outer
 mod:Mod K mg base
 bs:∀b o,base.get? b=some o->s.heap.get? b=some o/\H b=none
 bsz:base.objs.size≤s.heap.objs.size
 funs:s.heap.FunFrames base outer
 frf:∀b∈wt outer,H b=none
 hok:lW P w H s.heap
 bare:AllBare s.gens
noncomputable def CE (outer:.eW)(P:.ah)(w:World)(H:Hp)(s:Shared)(Q:VK)(u:Value)(s':Shared):Prop:=
 ∃v H',s'.os=s.os/\AllBare s'.gens/\Un (wt outer) [] H H' s.heap s'.heap/\lW P w H' s'.heap/\RelV v u/\Q v H'
noncomputable def CR (CX:ED)(outer:.eW)(P:.ah)(w:World)(H:Hp)(s:Shared)(Q:VK)(E:XK)(r:Result)(s':Shared):Prop:=
 match r with
 | .ok (.ret u)=>CE outer P w H s Q u s'
 | .ok _=>False
 | .error e=>CX outer H s E e s'
structure iS (P:.ah)(w:World)(K:.l)(mg:.H)(base:Heap)(CX:ED)(k:Nat)(f:Addr)(fd:.eX)(ps:.V)(sp:Sp):Prop where
 len:∀vs H Q E,sp vs H Q E->vs.length=ps.length
 run:∀(A:Around) (outer:.eW) (s:Shared) (H:Hp) (args:Args) (us:.S) (vs:List V) (Q:VK) (E:XK),ff k A->Bu P w K mg base A outer s H->BindsTo s fd args (ps.zip us)->Vals vs us->sp vs H Q E ->
  codeAny .gz A (.call (.c f) args) (CR CX outer P w H s Q E) s
theorem iS.mono {P:.ah}{w:World}{K:.l}{mg:.H}{base:Heap}{CX:ED}{j k:Nat}{f:Addr}{fd:.eX}{ps:.V}{sp:Sp}(F:iS P w K mg base CX j f fd ps sp)(h:j≤k):
  iS P w K mg base CX k f fd ps sp:=⟨F.len,fun A outer s H args us vs Q E hr=>F.run A outer s H args us vs Q E (hr.mono h)⟩
theorem iS.imp {P:.ah}{w:World}{K:.l}{mg:.H}{base:Heap}{CX:ED}{k:Nat}{f:Addr}{fd:.eX}{ps:.V}{sp a:Sp}(F:iS P w K mg base CX k f fd ps sp)
  (h:∀vs H Q E,a vs H Q E->sp vs H Q E):iS P w K mg base CX k f fd ps a:=
 ⟨fun vs H Q E q=>F.len vs H Q E (h _ _ _ _ q),fun A outer s H args us vs Q E hr he hb N hs=>F.run A outer s H args us vs Q E hr he hb N (h _ _ _ _ hs)⟩
theorem Bu.make {P:.ah}{w:World}{K:.l}{mg:.H}{base:Heap}{A:Around}{outer:.eW}{s:Shared}{H:Hp}(e:Bu P w K mg base A outer s H)(C:Addr)(us:.S)(kw:.d5):
  Bu P w K mg base (A.under .cW) outer s H:=⟨by first | exact e.frames | (simpa [Code.envs] using e.frames),e.mod,e.bs,e.bsz,e.funs,e.frf,e.hok,e.bare⟩
section
variable {X:Cx}{pins:.v}{σ:St}{H:Hp}{s s':Shared}
theorem Inv.env0 (I:.u):Bu X.prog X.w X.K X.mg X.base X.A X.stack s H:=
 ⟨I.ok.frames,I.ok.mod,I.bs,zaG I.ok.bsz I.sz,I.stack,I.stkFree,I.hok,I.bare⟩
theorem Inv.after {Q:VK}{u:Value}(I:.u)(h:CE X.stack X.prog X.w H s Q u s'):EP X pins σ Q u s':=by
 obtain⟨v,H',os,bare,un,hok,r,q⟩:=h
 obtain⟨S,g,d,t,a⟩:=s'
 obtain rfl:a=s.os:=os
 exact⟨v,H',I.call un hok bare (fun b z=>absurd z .h),r,q⟩
end
noncomputable def QM (sp:Sp)(dvs:List V)(E:XK)(t:TA):TE:=fun σ H Q=>t σ H fun vs H1=>sp (vs++dvs) H1 Q E
noncomputable def Jo (C:Addr)(m:Str)(sp:Sp)(dvs:List V)(E:XK)(ta:TE)(t:TA):TE:=fun σ H Q=>ta σ H fun x H1=>∃a dx fs,x=.ref a/\H1 a=some (.ax fs)/\fs.lookup m=none /\
 t σ H1 fun vs H2=>sp (x::(vs++dvs)) H2 Q E
noncomputable def QQ (C:Addr)(sp:Sp)(dvs:List V)(E:XK)(t:TA):TE:=fun σ H Q=>t σ H fun vs H1=>∀x dx,H1 x=none->H1 dx=none->dx≠x ->
 sp (.ref x::(vs++dvs)) (.V H1 x) (fun v H2=>v=.non/\Q (.c x) H2) E
noncomputable def Binds (K:.l)(fd:.eX)(ps:.V)(ds:.S):Prop:=
 ∀(s:Shared) (us:.S),K.In s.heap->(us++ds).length=ps.length->BindsTo s fd ⟨us,[]⟩ (ps.zip (us++ds))
theorem Binds.all {K:.l}{fd:.eX}{ps:.V}(h:∀us:List Value,us.length=ps.length->bindArgs fd ⟨us,[]⟩=pure (ps.zip us)):Binds K fd ps []:=fun s us _ hl=>by
 rw [zaA] at hl ⊢
 exact .of_eq (h us hl)
noncomputable def Passes (CX:ED)(X:Cx)(E:XK):Prop:=∀(pins:.v) (σ:St) (H:Hp) (s:Shared) (e:Value) (s':Shared),Inv X pins σ H s->CX X.stack H s E e s'->X.xe e s'
section
variable {X:Cx}{CX:ED}{k:Nat}{f C:Addr}{fd:.eX}{ps:.V}{sp:Sp}{dvs:List V}{ds:.S}{E:XK}{x m:Str}{p pos apos:Pos}{e o:Expr}{es:.av}{ta:TE}{t:TA}
theorem CA {pins:.v}{σ:St}{H:Hp}{s:Shared}{Q:VK}{us:.S}{vs:List V}(F:.be)(hr:ff k X.A)(hb:.fL)(hd:Vals dvs ds)(hx:Passes CX X E)
  (I:.u) (r:Vals vs us) (h:sp (vs++dvs) H Q E):wpAny .t X.A (call (.c f) us) .cU X.xe s:=by
 have r2:=r.append hd
 have hl:(us++ds).length=ps.length:=by rw [<- r2.length];exact F.len _ _ _ _ h
 refine wpAny_call (codeAny_mono (F.run X.A X.stack s H ⟨us,[]⟩ (us++ds) _ Q E hr I.env0 (hb s us I.kIn hl) r2 h) fun r s' hq=>?_)
 cases r with
 |error e=>exact hx pins σ H s e s' I hq
 |ok fl =>
  cases fl with
  |ret u=>exact I.after hq
  |next=>exact False.elim hq
  |brk=>exact False.elim hq
  |cont=>exact False.elim hq
theorem DV (F:.be)(hr:ff k X.A)(M:Gl X x)(hm:X.mg x=some (.c f))(hk:PySem.W.keepIn X.K (.c f)=true)(hb:.fL)(hd:Vals dvs ds)(hx:Passes CX X E)
  (ha:PA X (e::es) t) (v:.M=false:=by decide) (he:starEach (e::es) X.env=(.m e)::starEach es X.env:=by rfl) (l:(backTo pos .br).any (·.1)=false:=by rfl):
  PE X .aP (QM sp dvs E t):=by
 intro pins s σ H Q I h
 refine wpAny_Call_Name_kw (oW I M hm ?_ v)
 refine zb6 I.ok.mod.kin hk (df .ej fun us s1 ⟨vs,H1,O,r,q⟩=>⟨O.kIn,?_⟩) he l
 exact CA F hr hb hd hx O r q
theorem K8 {pl:Sem Bool}(he:PE X o ta)(c:eV X.K C)(hm:Meth X.K C m f)(F:.be)(hr:ff k X.A)(hb:.fL)(hd:Vals dvs ds)(hx:Passes CX X E)(ha:PA X (e::es) t)
  (J:starEach (e::es) X.env=(.m e)::starEach es X.env:=by rfl) (b:(backTo pos .br).any (·.1)=false:=by rfl)
  (Y:eval .e5 X.env=(do
   let z <- eval o X.env
   standAt apos.atName
   let (f,first) <- holding [z] (getMethod z m pl)
   callWith pos f first (backTo pos (starEach (e::es) X.env)) .dO):=by rfl):
  PE X .e5 (Jo C m sp dvs E ta t):=by
 intro pins s σ H Q I h
 refine PySem.W.methodCall_KW (df .cs fun u s1 ⟨x,H1,O,L,a,dx,fs,ex,d,l,q⟩=>?_) Y
 subst ex
 obtain rfl:u=Value.ref a:=L
 refine sZ O d c hm l ?_
 refine zb6 I.ok.mod.kin hm.kp (df (ha pos pins s1 σ H1 _ O q) fun us s2 ⟨vs,H2,K,r,q2⟩=>⟨K.kIn,?_⟩) J b
 exact CA (vs:=.ref a::vs) F hr hb hd hx K (.cons rfl r) q2
theorem IF {pl:Sem Bool}(he:PE X o ta)(c:eV X.K C)(hm:Meth X.K C m f)(F:.be)(hr:ff k X.A)(hb:.fL)(hd:Vals dvs ds)(hx:Passes CX X E)
  (Y:eval .gq X.env=(do
   let z <- eval o X.env
   standAt apos.atName
   let (f,first) <- holding [z] (getMethod z m pl)
   callWith pos f first (backTo pos .gx) .dO):=by rfl):
  PE X .gq (Jo C m sp dvs E ta QS):=by
 intro pins s σ H Q I h
 refine PySem.W.methodCall_KW (df .cs fun u s1 ⟨x,H1,O,L,a,dx,fs,ex,d,l,q⟩=>?_) Y
 subst ex
 obtain rfl:u=Value.ref a:=L
 refine sZ O d c hm l ?_
 exact PySem.W.callWith_K0 O.kIn hm.kp (CA (vs:=[.ref a]) F hr hb hd hx O (.ar rfl) q)
structure Mk (K:.l)(C f:Addr):Prop where
 makes:PySem.W.makesIn K C=true
 init:PySem.W.findIn K (.c C) "__init__" = some (.U f)
 fn:PySem.W.isFn K (.c f)=true
 kp:PySem.W.keepIn K (.c C)=true
theorem IV {pins:.v}{σ:St}{H:Hp}{s:Shared}{Q:VK}{us:.S}{vs:List V}(M:Mk X.K C f)(F:.be)(hr:ff (k+1) X.A)(hb:.fL)(hd:Vals dvs ds)
  (hx:Passes CX X E) (I:.u) (r:Vals vs us)
  (h:∀x dx,H x=none->H dx=none->dx≠x->sp (.ref x::(vs++dvs)) (.V H x) (fun v H2=>v=.non/\Q (.c x) H2) E):
  wpAny .t X.A (call (.c C) us) .cU X.xe s:=by
 have hq:=h _ s.heap.objs.size (I.hok.fresh (zbu _)) .f2 (zat (zbg _))
 have K:=Inv.made (C:=C) I
 have r2:Vals (V.ref .a3::(vs++dvs)) _:=.cons rfl (r.append hd)
 have hl:(Value.ref .a3::us++ds).length=ps.length:=by
  have e:=r2.length
  rw [F.len _ _ _ _ hq] at e
  exact e.symm
 refine wpAny_call (HN I.kIn M.makes M.init (beq_iff_eq.mp M.fn) (codeAny_mono (F.run _ X.stack _ _ _ _ _ _ E (hr.make C us [])
  (K.env0.make C us []) (hb _ _ K.kIn hl) r2 hq) fun r s' a=>?_))
 cases r with
 |error e=>exact hx pins σ _ _ e s' K a
 |ok fl =>
  cases fl with
  |ret u =>
   obtain⟨v,H',A,j,ev,q3⟩:=K.after a
   subst ev
   exact⟨j,⟨V.ref _,H',A,rfl,q3⟩⟩
  |next=>exact False.elim a
  |brk=>exact False.elim a
  |cont=>exact False.elim a
theorem K7 (M:Mk X.K C f)(F:.be)(hr:ff (k+1) X.A)(c:Gl X x)(hm:X.mg x=some (.c C))(hb:.fL)(hd:Vals dvs ds)(hx:Passes CX X E)
  (ha:PA X (e::es) t) (v:.M=false:=by decide) (he:starEach (e::es) X.env=(.m e)::starEach es X.env:=by rfl) (l:(backTo pos .br).any (·.1)=false:=by rfl):
  PE X .aP (QQ C sp dvs E t):=by
 intro pins s σ H Q I h
 refine wpAny_Call_Name_kw (oW I c hm ?_ v)
 refine zb6 I.ok.mod.kin M.kp (df .ej fun us s1 ⟨vs,H1,O,r,q⟩=>⟨O.kIn,?_⟩) he l
 exact IV M F hr hb hd hx O r q
end
section
variable {X:Cx}{CX:ED}{k:Nat}{f C:Addr}{fd:.eX}{ps ks:.V}{sp:Sp}{E:XK}{x m:Str}{p pos apos kpos:Pos}{e o:Expr}{es:.av}{kws:List Keyword}{te ta:TE}{t tk:TA}{nm:Option Str}
variable {g:List Value->List Value->List Value}{gV:List V->List V->List V}
end
structure aK (N P:.V)(sc:Scope):Prop where
 kind:sc.kind=.function
 co:sc.isCoroutine=false
 gen:sc.isGenerator=false
 nd:N.Nodup
 pre:N.take P.length=P
 par:∀x∈P,sc.names.lookup x=some .local\/sc.names.lookup x=some .cell
 nofree:∀y∈sc.names,y.2≠.free
theorem vW {kindOf:Str->Option NameKind}{x:Str}:∀{binds:.d5} {m:.H},(∀v,(x,v)∉binds)->bindL kindOf binds m x=m x
 |[],_,_=>rfl
 |(n,v)::r,m,h=>by
  unfold bindL
  rw [vW fun w L=>h w (.aT L)]
  split
  ·have:x≠n:=by rintro rfl;exact h v zad
   simp [this]
  ·rfl
theorem vU {kindOf:Str->Option NameKind}{x:Str}:∀{binds:.d5} {m:.H},(∀v,(x,v)∉binds)->bindC kindOf binds m x=m x
 |[],_,_=>rfl
 |(n,v)::r,m,h=>by
  unfold bindC
  rw [vU fun w L=>h w (.aT L)]
  split
  ·rfl
  ·have:x≠n:=by rintro rfl;exact h v zad
   simp [this]
theorem vV {kindOf:Str->Option NameKind}{x:Str}{v:Value}:∀{P:.V} {vs:.S} {i:Nat} {m:.H},P.Nodup->P[i]? = some x->vs[i]? = some v->kindOf x=some .local ->
  bindL kindOf (P.zip vs) m x=some v
 |[],_,_,_,_,h,_,_=>by simp at h
 |_::_,[],_,_,_,_,h,_=>by simp at h
 |p::P,w::vs,0,m,nd,h1,h2,hk=>by
  simp at h1 h2;subst h1;subst h2
  show bindL kindOf ((p,w)::P.zip vs) m p=_
  unfold bindL
  rw [vW fun v N=>(za0.mp nd).1 (zaB N).1,if_pos hk]
  simp
 |p::P,w::vs,i+1,m,nd,h1,h2,hk=>by
  unfold bindL
  exact vV (List.nodup_cons.mp nd).2 (by simpa using h1) (by simpa using h2) hk
theorem vT {kindOf:Str->Option NameKind}{x:Str}{v:Value}:∀{P:.V} {vs:.S} {i:Nat} {m:.H},P.Nodup->P[i]? = some x->vs[i]? = some v->kindOf x≠some .local ->
  bindC kindOf (P.zip vs) m x=some v
 |[],_,_,_,_,h,_,_=>by simp at h
 |_::_,[],_,_,_,_,h,_=>by simp at h
 |p::P,w::vs,0,m,nd,h1,h2,hk=>by
  simp at h1 h2;subst h1;subst h2
  show bindC kindOf ((p,w)::P.zip vs) m p=_
  unfold bindC
  rw [vU fun v N=>(za0.mp nd).1 (zaB N).1,if_neg hk]
  simp
 |p::P,w::vs,i+1,m,nd,h1,h2,hk=>by
  unfold bindC
  exact vT (List.nodup_cons.mp nd).2 (by simpa using h1) (by simpa using h2) hk
def start (N:.V)(vs:List V):St:=vs.map some++List.replicate (N.length-vs.length) none
noncomputable def sJ (CX:ED)(P:.ah)(w:World)(K:.l)(mg:.H)(base:Heap)(N:.V)(qual:Str)(scope:Scope)(f:Addr)(m:Value)(A:Around)(outer:.eW)(s:Shared)(H:Hp)(E:XK):Cx where
 prog:=P
 w:=w
 K:=K
 mg:=mg
 base:=base
 A:=A.deeper (.az m)
 N:=N
 Y8:=s
 Y9:=H
 env:=envOfC qual scope s.heap.objs.size f m
 outer:=outer
 stack:=envOfC qual scope s.heap.objs.size f m::outer
 ex:=[]
 calm:=true
 fn:=fun _=>true
 pn:=[]
 xe:=fun e s'=>wpAny .gz (A.deeper (.az m)) (leaving (.az m) e) (fun _ p=>CX outer H s E e p) (fun j p=>CX outer H s E j p) s'
theorem zJ {sc:Scope}{n:Nat}{x:Str}(h:sc.names.lookup x=some .cell):∃c,(cellsFrom n sc.names []).lookup x=some c:=by
 exact Option.isSome_iff_exists.mp (PySem.W.cellsFrom_some sc.names n [] (.inl h))
theorem Fn {CX:ED}{P:.ah}{w:World}{K:.l}{mg:.H}{base:Heap}{N ps:.V}{qual:Str}{scope:Scope}{f:Addr}{m:Value}{A:Around}{outer:.eW}{s s1:Shared}{H:Hp}{E:XK}{us:.S}{vs:List V}
  (S:aK N ps scope) (hd:A.handled=none) (L:Bu P w K mg base A outer s H) (hl:vs.length=ps.length) (r:Vals vs us)
  (x:InCallC s s.heap.objs.size (bindL (envOfC qual scope s.heap.objs.size f m).kindOf (ps.zip us) fun _=>none) (cellsFrom .a3 scope.names []) (bindC (envOfC qual scope s.heap.objs.size f m).kindOf (ps.zip us) fun _=>none) s1):
  Inv (sJ CX P w K mg base N qual scope f m A outer s H E) [] (start N vs) H s1:=by
 have l:ps.length≤N.length:=by have:=congrArg List.length S.pre;rw [zaV] at this;omega
 obtain⟨h1,tk,rfl,hk⟩:=x.done
 have t:∀b:Addr,b∉(sJ CX P w K mg base N qual scope f m A outer s H E).ex:=fun b z=>absurd (show b∈([]:List Addr) from z) .h
 refine⟨⟨L.mod,S.kind,rfl,rfl,zap _,fun y z c h1 h2=>?_,fun y R=>?_,fun y c _ h=>?_,fun _=>hd,Around.frames_deeper L.frames,.inr ⟨rfl,rfl⟩,fun b z=>absurd z (t b),L.bs,L.bsz,fun b _ _=>t b,fun b z=>absurd z (t b),L.funs,L.frf⟩,
  rfl,L.bare,Un.kept hk,⟨_,x.toInCall.ns,fun i y v h1 h2 W=>?_⟩,fun y c h=>⟨_,x.cell y c h⟩,L.hok.fresh (Nat.le_refl _),fun y c h=>?_,fun p hp=>absurd (show p∈([]:List _) from hp) .h,L.hok.kept hk,?_⟩
 ·exact name_of_addr x.apart (zaF h1) (zaF h2)
 ·rcases R with R | R
  ·exact zJ R
  ·exact absurd rfl (S.nofree _ (zaF R))
 ·exact zb5 (x.above y c (zaF h))
 ·have hi:i<vs.length:=by
   unfold start at h2
   by_cases hi:i<vs.length
   ·exact hi
   ·rw [List.getElem?_append_right .dq] at h2
    rw [List.getElem?_replicate] at h2
    split at h2<;>cases h2
  have ha:vs[i]? = some v:=by
   unfold start at h2
   rw [List.getElem?_append_left .dq,List.getElem?_map] at h2
   cases e:vs[i]? with
   |none=>rw [e] at h2;cases h2
   |some a=>rw [e] at h2;cases h2;rfl
  obtain⟨u,hu,j⟩:=r.get ha
  have hp:ps[i]? = some y:=by
   rw [<- S.pre,List.getElem?_take_of_lt .e];exact h1
  have d:ps.Nodup:=by rw [<- S.pre];exact S.nd.sublist (List.take_sublist _ _)
  refine⟨u,j,?_⟩
  rcases S.par y (zbA hp) with k | k
  ·exact .inl ⟨k,vV d hp hu k⟩
  ·obtain⟨c,e⟩:=zJ k
   refine .bg ⟨.inl k,c,e,?_⟩
   have q:=x.cell y c e
   rw [vT d hp hu (by show scope.names.lookup y≠_;rw [k];decide)] at q
   exact q
 ·exact L.hok.fresh (zb5 (x.above y c (zaF h)))
 ·unfold start
  show _=N.length
  rw [zak,zaf,zbj]
  omega
theorem Pu {CX:ED}{P:.ah}{w:World}{K:.l}{mg:.H}{base:Heap}{k:Nat}{f:Addr}{name qual:Str}{params:Arguments}{body:.bB}{scope:Scope}{h kV doc pm cdv ct oc:Value}{an od:.cZ}
  {osl:Array (Option Value)} {N ps:.V} {sp:Sp} (lk:K.lookup f=some ⟨oc,od,.func (PySem.W.fnOf name qual params body scope h kV doc pm an cdv ct),osl⟩) (p:PySem.W.codeIn K cdv qual=true) (S:aK N ps scope)
  (len:∀vs H Q E,sp vs H Q E->vs.length=ps.length)
  (a:∀(A:Around) (outer:.eW) (s:Shared) (H:Hp) (vs:List V) (Q:VK) (E:XK),ff k (A.deeper (.az cdv))->sp vs H Q E ->
   ∃t,mY .dL body t/\t { nx:=fun _ H'=>Q .non H',rt:=Q } (start N vs) H):
  iS P w K mg base CX (k+1) f (PySem.W.fnOf name qual params body scope h kV doc pm an cdv ct) ps sp:=by
 refine⟨len,fun A outer s H args us vs Q E hr L hb r c=>?_⟩
 have C:=L.mod.kin.keeps fun b o e=>(L.bs b o e).1
 have lim:=L.mod.nolimit.keeps fun b o e=>(L.bs b o e).1
 have d:∀y∈ps.zip us,scope.names.lookup y.1=some .local\/(scope.names.lookup y.1=some .cell/\((cellsFrom .a3 scope.names []).lookup y.1).isSome=true):=fun⟨n,v⟩ R=>by
  rcases S.par n (zaB R).1 with q | q
  ·exact .inl q
  ·exact .bg ⟨q,PySem.W.cellsFrom_some _ _ _ (.inl q)⟩
 refine codeAny_call_function hr.depth (C _ _ lk) rfl S.co S.gen rfl (PySem.W.codeRec_of C p) (hb _ _ _ _ ?_)
 refine wpAny_newFunctionEnv_cells S.kind d fun env he s1 x=>?_
 subst he
 refine⟨lim.keeps x.toInCall.keep,codeAny_func ?_⟩
 obtain⟨t,Y,hq⟩:=a A outer s H vs Q E (hr.deeper _) c
 have I:Inv .dL [] _ H s1:=Fn S hr.hd L (len _ _ _ _ c) r x
 refine wpAny_mono (Y [] s1 _ H _ I hq) (fun fl s' hs=>?_) fun e s' hs=>hs
 have fin:∀{σ':St} {H':Hp} {v:V} {u:Value},Inv .dL [] σ' H' s'->RelV v u->Q v H'->CE outer P w H s Q u s':=
  fun {σ' H' v u} J j q=>⟨v,H',J.os,J.bare,J.base,J.hok,j,q⟩
 cases fl with
 |ret u =>
  obtain⟨v,σ',H',J,j,q⟩:=hs
  exact fin J j q
 |next =>
  obtain⟨σ',H',J,q⟩:=hs
  exact fin (v:=V.non) J rfl q
 |brk =>
  obtain⟨_,_,_,q⟩:=hs
  exact False.elim q
 |cont =>
  obtain⟨_,_,_,q⟩:=hs
  exact False.elim q
section
variable {X:Cx}{x:Str}{p pos:Pos}{e:Expr}{es:.av}{t:TA}{id T:String}{r:List V->Hp->VK->Prop}
def TN (r:List V->Hp->VK->Prop)(t:TA):TE:=fun σ H Q=>t σ H fun vs H1=>r vs H1 Q
theorem AQ (U:gk X .dU r)(M:Gl X x)(hm:X.mg x=none)(N:bootBuiltins x=some .dU)(ha:PA X (e::es) t)(hn:x≠"__name__" := by decide)(v:.M=false:=by decide)
  (he:starEach (e::es) X.env=(.m e)::starEach es X.env:=by rfl) (l:(backTo pos .br).any (·.1)=false:=by rfl):PE X .aP (TN r t):=by
 intro pins s σ H Q I h
 refine wpAny_Call_Name_kw (my I M hm N ?_ hn v)
 exact PyProof.Rows.callWith_builtin1 (df .ej fun us s1 ⟨vs,H1,O,r1,q1⟩=>U pins s1 σ H1 vs us Q O r1 q1) he l
theorem FH (U:gk X (.type T) r)(M:Gl X x)(hm:X.mg x=none)(N:bootBuiltins x=some (.type T))(ha:PA X (e::es) t)(hn:x≠"__name__" := by decide)(v:.M=false:=by decide)
  (he:starEach (e::es) X.env=(.m e)::starEach es X.env:=by rfl) (l:(backTo pos .br).any (·.1)=false:=by rfl):PE X .aP (TN r t):=by
 intro pins s σ H Q I h
 refine wpAny_Call_Name_kw (my I M hm N ?_ hn v)
 exact zaN (df .ej fun us s1 ⟨vs,H1,O,r1,q1⟩=>U pins s1 σ H1 vs us Q O r1 q1) he l
end
end L2
namespace HT
open PySem PyProof.Rows
section
open PySem.SeqAt
open PySem.AutoSeq1 (wpAny_loadPart')
open PySem.MeetsSeq PySem.MeetsSeq2 PySem.MeetsSeq3
end
section
variable {prog:.ah}{w:World}{A:Around}{E:.o}{s:Shared}
theorem JM {t b:Addr}{vs ws:.S}{Q:.o}(Y:IsTup s.heap t vs.toArray)(hb:IsTup s.heap b ws.toArray)(N:vs≠[])
  (h1:ws=[]->Q (.c t) s) (h2:ws≠[]->Q .a6 { s with heap:=s.heap.push { cls:=.type "tuple", data:=.seq (vs++ws).toArray } })
  (hsz:vs.length+ws.length≤sizeLine):wpAny .Q A (binaryOp .Add (.c t) (.c b)) Q E s:=by
 obtain⟨⟨cls,dd,data,sl⟩,ho,U,n,hd⟩:=id Y
 obtain⟨⟨f,c,data2,g⟩,a,d,V,hd2⟩:=id hb
 subst U hd d hd2
 have e:vs.toArray++ws.toArray=(vs++ws).toArray:=.h
 by_cases hw:ws=[]
 ·exact concat_meets ⟨_,ho,rfl⟩ ⟨_,a,rfl⟩ noFill_tuple_add seq_tuple_add PySem.F.slot_tuple_add PySem.F.entry_tuple_add (PySem.F.args_tuple_add_2 _ _)
   (tuple_addW1 t b vs.toArray ws.toArray n V dd c sl g (by simpa using N) (by simp [hw])) ⟨ho,a,h1 hw⟩
 ·refine concat_meets ⟨_,ho,rfl⟩ ⟨_,a,rfl⟩ noFill_tuple_add seq_tuple_add PySem.F.slot_tuple_add PySem.F.entry_tuple_add (PySem.F.args_tuple_add_2 _ _)
   (tuple_addW2 t b vs.toArray ws.toArray n V dd c sl g (by simpa using N) (by simpa using hw) (by rw [List.size_toArray];exact hsz)) ⟨ho,a,?_⟩
  rw [e]
  exact h2 hw
noncomputable def gD (n d:Nat):Option Int->Nat
 |none=>d
 |some v=>if v<0 then (v+(n:Int)).toNat else min v.toNat n
theorem ud (n d:Nat):gD n d none=d:=rfl
theorem pj (n d k:Nat):gD n d (some (k:Int))=min k n:=by
 show (if (k:Int)<0 then ((k:Int)+(n:Int)).toNat else min (k:Int).toNat n)=min k n
 rw [if_neg .e,zaW]
theorem N1 (n d:Nat)(hd:d≤n)(o:.e1):gD n d o≤n:=by
 cases o with
 |none=>exact hd
 |some v =>
  show (if v<0 then (v+(n:Int)).toNat else min v.toNat n)≤n
  by_cases N:v<0
  ·rw [if_pos N];omega
  ·rw [if_neg N];exact Nat.min_le_right _ _
theorem Dd (v:Int)(n d:Nat):(if v<0 then max (v+(n:Int)) 0 else min v (n:Int))=((gD n d .di:Nat):Int):=by
 show (if v<0 then max _ 0 else min v (n:Int))=(((if v<0 then (v+(n:Int)).toNat else min v.toNat n):Nat):Int)
 by_cases N:v<0
 ·simp only [if_pos N];omega
 ·simp only [if_neg N];omega
theorem Bz (lo hi:.e1)(n:Nat):Builtin.Slice.sliceAdjust lo hi 1 (n:Int)=(((gD n 0 lo:Nat):Int),((gD n n hi:Nat):Int)):=by
 have h1:¬ ((1:Int)<0):=.e
 unfold Builtin.Slice.sliceAdjust
 refine Prod.ext ?_ ?_
 ·cases lo with
  |none=>rfl
  |some v=>exact Dd v n 0
 ·cases hi with
  |none=>rfl
  |some v=>exact Dd v n n
theorem Cy (i j:Nat):Builtin.Slice.slicePlaces (i:Int) (j:Int) 1=j-i:=by
 unfold Builtin.Slice.slicePlaces
 have h1:(1:Int)>0:=.e
 split<;>omega
theorem uv {v:Value}{o:.e1}{Q:Option Int->Shared->Prop}(p:IsPart v o)(h:Q o s):wpAny .Q A (Builtin.Slice.slicePartIndex v) Q E s:=by
 cases p with
 |none=>exact slicePart_none h
 |int i t=>exact slicePart_int h
theorem qq {sl:Addr}{c d:Value}{lo hi:.e1}{n:Nat}{Q:Int×Int×Nat->Shared->Prop}(hs:s.heap.IsSliceOf sl c d .none)(pl:IsPart c lo)(f:IsPart d hi)
  (h:Q (((gD n 0 lo:Nat):Int),1,gD n n hi-gD n 0 lo) s):wpAny .Q A (Builtin.Slice.sliceApplied (.c sl) (pure (n:Int))) Q E s:=by
 obtain⟨os,b,i,e⟩:=id hs
 refine .f (.G (wpAny_field b e rfl (wpAny_bind (wpAny_field b e rfl (wpAny_bind (wpAny_field b e rfl .b0))))))
 refine .f (slicePart_none ?_)
 refine .f (uv pl (.G (uv f (wpAny_bind .b0))))
 show wpAny _ _ (match Builtin.Slice.sliceAdjust lo hi 1 (n:Int) with | (lo,hi)=>pure (lo,(1:Int),Builtin.Slice.slicePlaces lo hi 1)) _ _ s
 rw [Bz lo hi n]
 show wpAny _ _ (pure _) _ _ s
 rw [Cy]
 exact wpAny_pure h
theorem IJ (xs:.cv)(i k:Nat):((List.range k).filterMap fun (m:Nat)=>xs[((i:Int)+(m:Int)*1).toNat]?).toArray=((xs.toList.drop i).take k).toArray:=by
 have e:(fun (m:Nat)=>xs[((i:Int)+(m:Int)*1).toNat]?)=fun m=>xs[i+m]?:=by grind
 rw [e]
 have:=pick_run xs i k
 rw [List.filterMap_map] at this
 have e2:((fun x=>xs[x]?) ∘ fun x=>i+x)=fun m=>xs[i+m]?:=rfl
 rw [e2] at this
 rw [this]
theorem oU {t sl:Addr}{items:.cv}{c d:Value}{lo hi:.e1}{Q:.o}(Y:IsTup s.heap t items)(hs:s.heap.IsSliceOf sl c d .none)(pl:IsPart c lo)(f:IsPart d hi)
  (L:¬ (gD items.size 0 lo=0/\gD items.size items.size hi=items.size))
  (h:Q .a6 { s with heap:=s.heap.push { cls:=.type "tuple", data:=.seq ((items.toList.drop (gD items.size 0 lo)).take .es).toArray } })
  (hsz:items.size≤sizeLine):wpAny .Q A (getItem (.c t) (.c sl)) Q E s:=by
 have a:sizeOk (.seq ((items.toList.drop (gD items.size 0 lo)).take .es).toArray):=by
  show ((items.toList.drop (gD items.size 0 lo)).take .es).toArray.size≤sizeLine
  rw [zaE,zaV,za2,zbF]
  omega
 have S:gD items.size items.size hi≤items.size:=N1 _ _ .b8 hi
 obtain⟨os,b,i,e⟩:=id hs
 have j:s.TypeIs (.c sl) "slice" := ⟨os,b,i⟩
 unfold getItem
 try with_reducible refine wpAny_holding ?_
 first | refine wpAny_bind .b0 | skip
 refine .f (wpAny_sequenceKey Y.typeIs .f ?_)
 refine wpAny_bind (wpAny_callSpecial?_slot (name:=Str.ofString "__getitem__") Y.typeIs zbM
  (wpAny_call_entry zbM Y.typeIs entry_tuple_getitem ?_ (args_tuple_getitem _ _)))
 show wpAny _ _ (Builtin.Tuple.tupleItemsOf (.c t) >>= _) _ _ s
 refine .f (tupleItemsOf_ Y ?_)
 refine .f (wpAny_typeOf j ?_)
 rw [if_pos .f]
 refine .f (qq hs pl f ?_)
 have g:¬ ((((gD items.size 0 lo:Nat):Int) == 0&&(1:Int) == 1&&(gD items.size items.size hi-gD items.size 0 lo) == items.size)=true):=by grind
 show wpAny _ _ (if (((gD items.size 0 lo:Nat):Int) == 0&&(1:Int) == 1&&(gD items.size items.size hi-gD items.size 0 lo) == items.size)=true then _ else _) _ _ s
 rw [if_neg g,IJ]
 first
  |exact wpAny_bind (m:=Builtin.Tuple.tupleExact _) (wpAny_newObj_type (.ao ⟨_,rfl,wpAny_pure h⟩) a)
  |exact wpAny_bind (m:=Builtin.Tuple.tupleExact _) (wpAny_newObj_type (.f (.ao (.aU ⟨_,rfl,wpAny_pure h⟩))) a)
  |exact wpAny_bind _
  |exact wpAny_bind _
end
end HT
namespace L2
open PySem PySem.Spec PyProof.Rows
abbrev TO:=St->Hp->(Option Int->Hp->Prop)->Prop
noncomputable def PO (X:Cx)(e:Option Expr)(t:TO):Prop:=
 ∀(pins:.v) (s:Shared) (σ:St) (H:Hp) (Q:Option Int->Hp->Prop),Inv X pins σ H s->t σ H Q ->
  wpAny .t X.A (evalPart e X.env) (fun u s'=>∃o H',Inv X pins σ H' s'/\IsPart u o/\Q o H') X.xe s
def LG:TO:=fun _ H Q=>Q none H
def QV (t:TE):TO:=fun σ H Q=>t σ H fun x H1=>∃i,x=.int i/\Q (some i) H1
section
variable {X:Cx}{e:Expr}{te:TE}{lo hi:Option Expr}{tl th:TO}{pos p2:Pos}
theorem Ld:PO X none LG:=by
 intro pins s σ H Q I h
 exact .ao ⟨none,H,I,.none,h⟩
theorem Le (h:PE X e te):PO X (some e) (QV te):=by
 intro pins s σ H Q I L
 refine df (h pins s σ H _ I L) fun u s1 .ay=>?_
 obtain⟨i,rfl,q⟩:=q1
 obtain⟨t,rfl⟩:=r1
 exact⟨some i,H1,O,.int i t,q⟩
noncomputable def LV (X:Cx)(r:.dB):Prop:=
 ∀(pins:.v) (s:Shared) (σ:St) (H:Hp) (x:V) (v c d:Value) (lo hi:.e1) (sl:Addr) (Q:VK),Inv X pins σ H s->RelV x v->s.heap.IsSliceOf sl c d .none->IsPart c lo->IsPart d hi->r x lo hi H Q ->
  ∃T id,typeLookup (.type T) "__getitem__" = pure (some .dU)/\s.TypeIs v T/\wpAny .t X.A (getItem v (.c sl)) .cU X.xe s
theorem LV.or {r B:.dB}(h:LV X r)(h':LV X B):LV X (fun x lo hi H Q=>r x lo hi H Q\/B x lo hi H Q):=by
 intro pins s σ H x v c d lo hi sl Q I L hs pl f q
 rcases q with q | q
 ·exact h pins s σ H x v c d lo hi sl Q I L hs pl f q
 ·exact h' pins s σ H x v c d lo hi sl Q I L hs pl f q
noncomputable def Uy (r:.dB)(te:TE)(tl th:TO):TE:=fun σ H Q=>te σ H fun x H1=>tl σ H1 fun l H2=>th σ H2 fun u P=>r x l u P Q
theorem IG {r:.dB}(hr:LV X r)(he:PE X e te)(hl:PO X lo tl)(hu:PO X hi th):PE X (.ab e (.Slice lo hi none p2)) (Uy r te tl th):=by
 intro pins s σ H Q I h
 refine Subscript_ (df .cs fun v s1 .ay=>?_)
 refine wpAny_Slice (df (hl pins s1 σ H1 _ O q1) fun c s2 ⟨l,H2,K,pl,q2⟩=>df (hu pins s2 σ H2 _ K q2) fun d w ⟨u,P,A,pu,q3⟩=>?_)
 refine wpAny_pure ?_
 have t:Inv X pins σ P { w with heap:=w.heap.push { cls:=.type "slice", data:=.fields #[c,d,.none] } }:=A.kept fun b ob q=>Heap.get?_push_of_some _ q
 obtain⟨T,id,N,Y,M⟩:=hr pins { w with heap:=w.heap.push { cls:=.type "slice", data:=.fields #[c,d,.none] } } σ P x v c d l u w.heap.objs.size Q t r1 (Heap.IsSliceOf.new ..) pl pu q3
 exact tail_any Y N M (by with_unfolding_all rfl)
noncomputable def sI (xs:List V)(lo hi:.e1):List V:=(xs.drop (HT.gD xs.length 0 lo)).take (HT.gD xs.length xs.length hi-HT.gD xs.length 0 lo)
theorem qC (xs:List V)(lo hi:.e1):(sI xs lo hi).length≤xs.length:=by
 unfold sI
 rw [zaV,za2]
 omega
noncomputable def S1 (K:.l):V->Option Int->Option Int->Hp->VK->Prop:=fun x lo hi H Q=>∃a xs,x=.ref a/\nv K H a xs /\
 ¬ (HT.gD xs.length 0 lo=0/\HT.gD xs.length xs.length hi=xs.length)/\∀p,H p=none->Q (.c p) (.aj p (.tup (sI xs lo hi)))
theorem N7:LV X (S1 X.K):=by
 intro pins s σ H x v c d lo hi sl Q I L hs pl f h
 obtain⟨a,xs,rfl,hx,hw,q⟩:=h
 cases L
 obtain⟨G,r,Y,hz⟩:=I.tuple hx
 have hlen:G.toArray.size=xs.length:=by rw [zaE];exact r.length.symm
 refine⟨"tuple", _,zbM.lookup,Y.typeIs,?_⟩
 refine HT.oU Y hs pl f (by rw [hlen];exact hw) ?_ (by rw [hlen];exact hz)
 rw [hlen]
 refine⟨.ref s.heap.objs.size,_,I.laid (fun b ob q=> .bD) .b8 ?_,rfl,q _ .f2⟩
 exact⟨zaG (qC xs lo hi) hz,_,(r.drop _).take _,IsTup.new _ _⟩
noncomputable def Qu (K:.l):R2:=fun x y H Q=>∃a b xs ys,x=.ref a/\y=.ref b/\nv K H a xs/\nv K H b ys/\xs≠[]/\xs.length+ys.length≤sizeLine /\
 (ys=[]->Q (.c a) H)/\(ys≠[]->∀p,H p=none->Q (.c p) (.aj p (.tup (xs++ys))))
theorem Vals.nil_iff {xs:List V}{us:.S}(r:Vals xs us):us=[] ↔ xs=[]:=by
 cases r with
 |nil=>simp
 |cons _ _=>simp
theorem KU:pP X .gX (Qu X.K):=by
 intro pins s σ H x y v u Q I L Z h
 obtain⟨a,b,xs,ys,rfl,rfl,ha,hb,hx,hz,q1,q2⟩:=h
 cases L
 cases Z
 obtain⟨G,r1,p1,_⟩:=I.tuple ha
 obtain⟨c,r2,p2,_⟩:=I.tuple hb
 refine HT.JM p1 p2 (fun z=>hx (r1.nil_iff.mp z)) (fun z=>⟨.ref a,H,I,rfl,q1 (r2.nil_iff.mp z)⟩) (fun z=>?_) (by rw [<- r1.length,<- r2.length];exact hz)
 refine⟨.ref s.heap.objs.size,_,I.laid (fun b ob q=> .bD) .b8 ?_,rfl,q2 (fun w=>z (r2.nil_iff.mpr w)) _ .f2⟩
 exact⟨by rw [zak];exact hz,_,r1.append r2,IsTup.new _ _⟩
end
noncomputable def OL (n:Nat)(i:Int):Option Nat:=if 0≤i then (if i<n then some i.toNat else none) else if -(n:Int)≤i then some (i+n).toNat else none
def zr {α:Type}(xs:List α)(i:Int):Option α:=(OL xs.length i).bind fun j=>xs[j]?
theorem Ko {n:Nat}{i:Int}{j:Nat}(h:OL n i=some j):seqIndex? i n=some j/\j<n /\ -(n:Int)≤i/\i<n:=by
 unfold OL at h
 by_cases h0:0≤i
 ·rw [if_pos h0] at h
  by_cases h1:i<n
  ·rw [if_pos h1] at h
   have e:=zaT h
   exact⟨by rw [seqIndex_of h0 h1,e],.e,.e,h1⟩
  ·rw [if_neg h1] at h;cases h
 ·rw [if_neg h0] at h
  by_cases h1 : -(n:Int)≤i
  ·rw [if_pos h1] at h
   have e:=zaT h
   exact⟨by rw [seqIndex_neg .e h1,e],.e,h1,.e⟩
  ·rw [if_neg h1] at h;cases h
theorem xk {α:Type}{xs:List α}{i:Int}{v:α}(h:zr xs i=some v):∃j,seqIndex? i xs.length=some j/\xs[j]? = some v/\j<xs.length /\ -(xs.length:Int)≤i/\i<xs.length:=by
 unfold zr at h
 cases e:OL xs.length i with
 |none=>rw [e] at h;cases h
 |some j =>
  rw [e] at h
  obtain⟨h1,h2,W,N⟩:=Ko e
  exact⟨j,h1,h,h2,W,N⟩
theorem rB {α:Type}{xs:List α}{j:Nat}{v:α}(h:xs[j]? = some v):zr xs (j:Int)=some v:=by
 have S:=(zav.mp h).1
 have e:OL xs.length (j:Int)=some j:=by
  unfold OL
  rw [if_pos .e,if_pos .e];simp
 unfold zr;rw [e];exact h
def C2 (b:Expr):Prop:=∀o i,subscripted b false o i=operate [o,i] (getItem o i)
noncomputable def Ov (X:Cx)(r:R2):Prop:=
 ∀(value slice:Expr) (pins:.v) (s:Shared) (σ:St) (H:Hp) (x y:V) (v u:Value) (Q:VK),Inv X pins σ H s->RelV x v->RelV y u->r x y H Q ->
  subscripted slice false v u=operate [v,u] (getItem v u)->wpAny .t X.A (subscriptTail value slice v u) .cU X.xe s
noncomputable def Ow (X:Cx)(id:String)(r:.fm):Prop:=
 ∀(pins:.v) (s:Shared) (σ:St) (H:Hp) (x:V) (xs:List V) (v:Value) (us:.S) (Q:VK),Inv X pins σ H s->RelV x v->Vals xs us->r x xs H Q ->
  wpAny .t X.A (call .dU (v::us)) .cU X.xe s
section
variable {X:Cx}{a b:Expr}{ta tb:TE}{pos:Pos}
theorem Qo {r:R2}(hr:Ov X r)(ha:.gt)(hb:PE X b tb)(hs:C2 b):PE X (.ab a b) (QU r ta tb):=by
 intro pins s σ H Q I h
 exact Subscript_ (MD ha hb I h fun v u s2 x y H2 K L Z q=>hr a b pins s2 σ H2 x y v u Q K L Z q (hs _ _))
noncomputable def SU (K:.l):R2:=fun x y H Q=>∃p xs i v,x=.ref p/\y=.int i/\gE K H p xs/\zr xs i=some v/\Q v H
noncomputable def SX (K:.l):R2:=fun x y H Q=>∃p xs i v,x=.ref p/\y=.int i/\nv K H p xs/\zr xs i=some v/\Q v H
noncomputable def SV:R2:=fun x y H Q=>∃z i c,x=.str z/\y=.int i/\z.length≤sizeLine/\zr z.cps.toList i=some c/\Q (.str ⟨#[c]⟩) H
theorem DH:Ov X (SU X.K):=by
 intro value slice pins s σ H x y v u Q I L Z h hs
 obtain⟨p,xs,i,z,rfl,rfl,hq,he,q⟩:=h
 cases L
 obtain⟨t,rfl⟩:=Z
 obtain⟨G,r,pl,hz⟩:=I.list hq
 obtain⟨j,h1,h2,W,N,D⟩:=xk he
 obtain⟨w,c,d⟩:=r.get h2
 have hl:=r.length
 have hn:=p9
 have fin:EP X pins σ Q w s:=⟨z,H,I,d,q⟩
 by_cases h0:0≤i
 ·have S:i.toNat=j:=by
   rw [seqIndex_of h0 D] at h1
   exact zaT h1
  exact item_listR pl.isList h0 .e (by rw [S];simpa using c) fin hs
 ·have S:(i+(G.toArray.size:Int)).toNat=j:=by
   rw [seqIndex_neg .e N] at h1
   rw [zaE,<- hl]
   exact zaT h1
  exact subscriptTail_builtinR pl.isList.typeIs slot_list_getitem.lookup
   (wpAny_getItem_list_neg pl.isList .e .gB .e (by rw [S];simpa using c) ⟨rfl,fin⟩) hs
theorem M8:Ov X (SX X.K):=by
 intro value slice pins s σ H x y v u Q I L Z h hs
 obtain⟨p,xs,i,z,rfl,rfl,hq,he,q⟩:=h
 cases L
 obtain⟨t,rfl⟩:=Z
 obtain⟨G,r,pl,hz⟩:=I.tuple hq
 obtain⟨j,h1,h2,W,N,D⟩:=xk he
 obtain⟨w,c,d⟩:=r.get h2
 have hn:=p9
 have fin:EP X pins σ Q w s:=⟨z,H,I,d,q⟩
 exact subscriptTail_builtinR pl.typeIs slot_tuple_getitem.lookup
  (getItem_tuple pl .e .e (by rw [List.size_toArray,<- r.length];exact h1) (by simpa using c) ⟨rfl,fin⟩) hs
theorem M7:Ov X SV:=by
 intro value slice pins s σ H x y v u Q I L Z h hs
 obtain⟨z,i,c,rfl,rfl,hz,he,q⟩:=h
 obtain⟨t,rfl⟩:=L
 obtain⟨t',rfl⟩:=Z
 obtain⟨j,h1,h2,W,N,D⟩:=xk he
 have hl:z.cps.toList.length=z.length:=by simp [Str.length]
 rw [hl] at h1 N D
 have hn:=p9
 exact tail_any (typeIs_str s z t) slot_str_getitem.lookup (getItem_str (by grind) (by rw [h1];simpa using h2) ⟨.str ⟨#[c]⟩,H,.g6,.al,q⟩) hs
theorem yZ (lo hi:.e1)(n:Nat):(sliceBounds lo hi none n).1=((HT.gD n 0 lo:Nat):Int)/\(sliceBounds lo hi none n).2.1=((HT.gD n n hi:Nat):Int)/\(sliceBounds lo hi none n).2.2=1:=by
 refine⟨?_,?_,rfl⟩
 ·cases lo with
  |none=>simp [sliceBounds,HT.gD]
  |some i =>
   simp only [sliceBounds,HT.gD,Option.getD_none,if_true]
   by_cases h:i<0
   ·simp only [h,if_true]<;>omega
   ·simp only [h,if_false]<;>omega
 ·cases hi with
  |none=>simp [sliceBounds,HT.gD]
  |some i =>
   simp only [sliceBounds,HT.gD,Option.getD_none,if_true]
   by_cases h:i<0
   ·simp only [h,if_true]<;>omega
   ·simp only [h,if_false]<;>omega
theorem vM (G:.S)(lo hi:.e1):slicePick G.toArray lo hi none=((G.drop (HT.gD G.length 0 lo)).take (HT.gD G.length G.length hi-HT.gD G.length 0 lo)).toArray:=by
 obtain⟨h1,h2,W⟩:=yZ lo hi G.toArray.size
 unfold slicePick
 rw [h1,h2,W]
 simp only [sliceRange_one,pick_run]<;>rfl
noncomputable def S0 (K:.l):V->Option Int->Option Int->Hp->VK->Prop:=fun x lo hi H Q=>∃a xs,x=.ref a/\gE K H a xs/\∀p,H p=none->Q (.c p) (.aj p (.al (sI xs lo hi)))
theorem Lx:LV X (S0 X.K):=by
 intro pins s σ H x v c d lo hi sl Q I L hs pl f h
 obtain⟨a,xs,rfl,hx,q⟩:=h
 cases L
 obtain⟨G,r,Y,hz⟩:=I.list hx
 have hlen:=r.length
 refine⟨"list", _,slot_list_getitem.lookup,Y.isList.typeIs,?_⟩
 refine wpAny_getItem_list_slice Y.isList hs pl f .none .h ?_ .gB
 rw [vM,<- hlen]
 refine⟨.ref s.heap.objs.size,_,I.laid (fun b ob q=> .bD) .b8 ?_,rfl,q _ .f2⟩
 exact⟨zaG (qC xs lo hi) hz,_,0,(r.drop _).take _,Heap.get?_push_size _ rfl⟩
theorem xp:gk X .gs (fun xs H Q=>∃p ys,xs=[.ref p]/\(gE X.K H p ys\/nv X.K H p ys)/\Q (.int ys.length) H):=by
 intro pins s σ H xs us Q I r h
 obtain⟨p,ys,rfl,hq,q⟩:=h
 obtain⟨u,rfl,L⟩:=vals1 r
 cases L
 have hn:=p9
 rcases hq with hq | hq
 ·obtain⟨G,B,pl,hz⟩:=I.list hq
  have hlen:=B.length
  exact Calls.call_len_list pl.isList .cg ⟨.int ys.length,H,.g6,⟨s.toks+1,by rw [List.size_toArray,hlen]⟩,q⟩
 ·obtain⟨G,B,pl,hz⟩:=I.tuple hq
  have hlen:=B.length
  exact len_tuple pl .cg ⟨.int ys.length,H,.g6,⟨s.toks+1,by rw [List.size_toArray,hlen]⟩,q⟩
theorem xq:gk X .gs (fun xs H Q=>∃z,xs=[.str z]/\z.length≤sizeLine/\Q (.int z.length) H):=by
 intro pins s σ H xs us Q I r h
 obtain⟨z,rfl,hz,q⟩:=h
 obtain⟨u,rfl,t,rfl⟩:=vals1 r
 have hn:=p9
 exact len_str .e ⟨.int z.length,H,.g6,.al,q⟩
theorem gk.or {f:Value}{r B:List V->Hp->VK->Prop}(h:gk X f r)(h':gk X f B):gk X f (fun xs H Q=>r xs H Q\/B xs H Q):=by
 intro pins s σ H xs us Q I rs q
 rcases q with q | q
 ·exact h pins s σ H xs us Q I rs q
 ·exact h' pins s σ H xs us Q I rs q
theorem xr:gk X .hJ (fun xs H Q=>∃p ys,xs=[.ref p]/\(gE X.K H p ys\/nv X.K H p ys)/\∀l,H l=none->Q (.c l) (.aj l (.al ys))):=by
 intro pins s σ H xs us Q I r h
 obtain⟨p,ys,rfl,hq,q⟩:=h
 obtain⟨u,rfl,L⟩:=vals1 r
 cases L
 have fin:∀(G:.S),Vals ys G->ys.length≤sizeLine->∀(h':Heap) (g:Nat),(∀b o',s.heap.get? b=some o'->h'.get? b=some o') ->
   h'.get? s.heap.objs.size=some { cls:=.type "list", dict:=none,data:=.seq G.toArray g,slots:=#[] }->EP X pins σ Q _ { s with heap:=h' }:=fun G B hz h' g kp e =>
  ⟨.ref s.heap.objs.size,_,I.laid kp .b8 (show dE X.prog X.w _ h' _ (.al ys) from ⟨hz,G,g,B,e⟩),rfl,q _ .f2⟩
 rcases hq with hq | hq
 ·obtain⟨G,B,pl,hz⟩:=I.list hq
  have hlen:=B.length
  obtain⟨o,ho,U,n,hd⟩:=pl.isList
  exact call_list_seq p .bM ho U hd (fun h' g kp e=>fin G B hz h' g kp e) .cg
 ·obtain⟨G,B,pl,hz⟩:=I.tuple hq
  have hlen:=B.length
  obtain⟨o,ho,U,n,hd⟩:=pl
  exact call_list_seq p (.inr rfl) ho U hd (fun h' g kp e=>fin G B hz h' g kp e) .cg
theorem uT:gk X (.type "tuple") (fun xs H Q=>∃p ys,xs=[.ref p]/\((gE X.K H p ys/\∀l,H l=none->Q (.c l) (.aj l (.tup ys)))\/(nv X.K H p ys/\Q (.c p) H))):=by
 intro pins s σ H xs us Q I r h
 obtain⟨p,ys,rfl,h⟩:=h
 obtain⟨u,rfl,L⟩:=vals1 r
 cases L
 rcases h with ⟨hq,q⟩ | ⟨hq,q⟩
 ·obtain⟨G,B,pl,hz⟩:=I.list hq
  have hlen:=B.length
  refine call_tuple_list pl.isList (fun h' kp=>?_) .cg
  have O:Inv X pins σ H { s with heap:=h' }:=I.kept (t':=s.toks) kp
  have K:=
   O.laid (t':=s.toks) (fun b o e=> .cK) .b8 (show dE X.prog X.w _ _ _ (.tup ys) from ⟨hz,G,B,IsTup.new _ _⟩)
  exact⟨.ref h'.objs.size,_,K,rfl,q _ (O.hok.fresh .b8)⟩
 ·obtain⟨G,B,pl,hz⟩:=I.tuple hq
  exact call_tuple_same pl ⟨.ref p,H,I,rfl,q⟩
noncomputable def Tp (K:.l)(T:String)(x:V)(H:Hp):Prop:=match x with
 | .str _=>T = "str"
 | .int _=>T = "int"
 | .ref p=>(T = "list"/\∃xs,gE K H p xs)\/(T = "tuple"/\∃o,K.lookup p=some o/\o.cls=.type "tuple"/\o.dict=none) \/
   (T = "dict"/\((∃kvs,H p=some .ba)\/∃kvs,H p=some (.dT kvs)))\/(T = "set"/\∃S n,H p=some (.set S n))
 |_=>False
theorem Jw {pins:.v}{σ:St}{H:Hp}{s:Shared}{T:String}{x:V}{v:Value}(I:.u)(r:RelV x v)(ty:Tp X.K T x H):
  s.TypeIs v T/\∀a,v=.ref a->∃ob,s.heap.get? a=some ob/\ob.dict=none:=by
 cases x with
 |str z =>
  obtain⟨t,rfl⟩:=r
  cases (ty)
  exact⟨typeIs_str s z t,fun _ e=>nomatch e⟩
 |int i =>
  obtain⟨t,rfl⟩:=r
  cases (ty)
  exact⟨typeIs_int s i t,fun _ e=>nomatch e⟩
 |ref p =>
  cases r
  rcases ty with ⟨rfl,xs,hq⟩ | ⟨rfl,o,hk,U,hd⟩ | ⟨rfl,hk⟩ | ⟨rfl,S,n,hk⟩
  ·obtain⟨G,_,pl,_⟩:=I.list hq
   refine⟨pl.isList.typeIs,fun a e=>?_⟩
   cases e
   obtain⟨o,n,e,c,hd,_⟩:=pl
   exact⟨o,e,hd⟩
  ·refine⟨⟨o,I.kIn p o hk,U⟩,fun a e=>?_⟩
   cases e
   exact⟨o,I.kIn _ o hk,hd⟩
  ·have z:∃o,s.heap.get? p=some o/\o.ExactDict:=by
    rcases hk with ⟨kvs,hk⟩ | ⟨kvs,hk⟩
    ·obtain⟨_,_,_,_,o,_,_,e,ex,_⟩:=I.hok p _ hk
     exact⟨o,e,ex⟩
    ·obtain⟨_,_,_,_,o,_,_,e,ex,_⟩:=I.hok p _ hk
     exact⟨o,e,ex⟩
   obtain⟨o,e,ex⟩:=z
   refine⟨⟨o,e,ex.1⟩,fun a e2=>?_⟩
   cases e2
   exact⟨o,e,ex.2.1⟩
  ·obtain⟨o,_,_,_,e,ex,_⟩:=I.hok p _ hk
   refine⟨⟨o,e,ex.1⟩,fun a e2=>?_⟩
   cases e2
   exact⟨o,e,ex.2.1⟩
 |_=>exact False.elim ty
noncomputable def S8 (K:.l)(T:String)(r:.fm)(to:TE):TE:=fun σ H Q=>to σ H fun x H1=>Tp K T x H1/\r x [] H1 Q
noncomputable def Us (K:.l)(T:String)(r:.fm)(to:TE)(t:TA):TE:=fun σ H Q=>to σ H fun x H1=>Tp K T x H1/\t σ H1 fun xs H2=>r x xs H2 Q
variable {o e:Expr}{es:.av}{to:TE}{t:TA}{name:Str}{apos cpos:Pos}{T id:String}{r:.fm}
theorem NC (u:PlainAttrs T)(slot:Slot T name id)(k:.fk)(hm:Ow X id r)(ho:PE X o to)
  (j:attributeBase o name X.env (.Z o)=eval o X.env:=by rfl) (c:.d8=true:=by rfl):PE X (.Call (.ab name) [] [] cpos) (S8 X.K T r to):=by
 intro pins s σ H Q I h
 refine wpAny_Call_method0_late j c (df (ho pins s σ H _ I h) fun v s1 ⟨x,H1,O,r1,ty,q1⟩=>?_)
 obtain⟨h1,h2⟩:=Jw O r1 ty
 exact⟨T,id,u,slot,k,h1,h2,Calls.callWith_builtin rfl (PySem.evalArgs_none (hm pins s1 σ H1 x [] v [] Q O r1 .nil q1))⟩
theorem DU (u:PlainAttrs T)(slot:Slot T name id)(k:.fk)(hm:Ow X id r)(ho:PE X o to)(ha:PA X (e::es) t)
  (j:attributeBase o name X.env (.Z o)=eval o X.env:=by rfl)
  (d:((backTo cpos (starEach (e::es) X.env)).all (fun x=>!x.1)&&(backToKw cpos (keywordEach [] X.env)).all (fun x=>x.1.isSome)
   && decide ((e::es).length+([]:List Keyword).length+(if ([]:List Keyword).isEmpty then 0 else 1)<30))=true:=by rfl)
  (c:.d8=true:=by rfl) (hs:starEach (e::es) X.env=(.m e)::starEach es X.env:=by rfl) (i:(backTo cpos .br).any (·.1)=false:=by rfl):
  PE X (.Call (.ab name) (e::es) [] cpos) (Us X.K T r to t):=by
 intro pins s σ H Q I h
 refine wpAny_Call_method_late j d c rfl (df (ho pins s σ H _ I h) fun v s1 ⟨x,H1,O,r1,ty,q1⟩=>?_)
 obtain⟨h1,h2⟩:=Jw O r1 ty
 refine⟨T,id,u,slot,k,h1,h2,?_⟩
 have hA:=ha cpos pins s1 σ H1 _ O q1
 rw [hs] at hA ⊢
 refine Calls.callWith_builtin (by show (false||(backTo cpos _).any (·.1))=false;rw [i]<;>rfl) (Calls.evalArgs_plain ?_)
 exact df hA fun us s2 ⟨vs,H2,K,r2,q2⟩=>hm pins s2 σ H2 x vs v us Q K r1 r2 q2
end
noncomputable def Tt (X:Cx)(id:String)(r:.fm):Prop:=
 ∀(pins:.v) (s:Shared) (σ:St) (H:Hp) (x:V) (xs:List V) (v:Value) (us:.S) (Q:VK),Inv X pins σ H s->RelV x v->Vals xs us->r x xs H Q ->
  wpAny .t X.A (call .dU (v::us)) .cU X.xe s
theorem Vals.one:∀{x:V} {us:.S},Vals [x] us->∃u,us=[u]/\RelV x u
 |_,_,.cons r .nil=>⟨_,rfl,r⟩
theorem Vals.two:∀{x y:V} {us:.S},Vals [x,y] us->∃u v,us=[u,v]/\RelV x u/\RelV y v
 |_,_,_,.cons r (.ar q)=>⟨_,_,rfl,r,q⟩
theorem Vals.zero:∀{us:.S},Vals [] us->us=[]
 |_,.nil=>rfl
theorem Vals.reverse {xs:List V}{us:.S}(h:Vals xs us):Vals xs.reverse us.reverse:=by
 induction h with
 |nil=>exact .nil
 |cons r t A=>rw [zbo,zbo];exact Vals.append A (.ar r)
theorem Vals.rep {xs:List V}{us:.S}(h:Vals xs us):∀k:Nat,Vals (List.replicate k xs).flatten (List.replicate k us).flatten
 |0=>.nil
 |k+1=>by
  exact Vals.append h (Vals.rep h k)
theorem foldl_rep (G:.S):∀(k:Nat) (acc:.S),
  List.foldl (fun w g=>w++g) acc.toArray (List.replicate k G.toArray)=(acc++(List.replicate k G).flatten).toArray
 |0,acc=>.h
 |k+1,acc=>by
  have e:acc.toArray++G.toArray=(acc++G).toArray:=.h
  have e2:(acc++G)++(List.replicate k G).flatten=acc++(List.replicate (k+1) G).flatten:=by
   rw [zaM,zaX,zaJ]
  rw [<- e2,<- foldl_rep G k (acc++G),<- e,zaM,List.foldl_cons]
section
variable {X:Cx}{pins:.v}{σ:St}{H:Hp}{s:Shared}{l b:Addr}{xs ys zs:List V}
theorem Inv.lset {G its':.S}{n:Nat}{f:Array Value->Array Value}{t':Nat}(I:.u)(A:H l=some .eJ)
  (e:s.heap.get? l=some { cls:=.type "list", data:=.seq G.toArray n }) (hf:f G.toArray=its'.toArray) (N:Vals ys its') (hz:ys.length≤sizeLine):
  Inv X pins σ (.aj l (.al ys)) { s with heap:=s.heap.update l (Obj.mapSeq f),toks:=t' }:=by
 have q:=PySem.IsL.update e f
 rw [hf] at q
 refine I.write (by rw [A];exact trivial) .bM (fun i u hb hu=>(Heap.get?_update_other s.heap _ (.a2 hb)).trans hu) ⟨_,q⟩ ?_
 exact⟨hz,its',_,N,q⟩
theorem Inv.lnew {G:.S}{t':Nat}(I:.u)(N:Vals ys G)(hz:ys.length≤sizeLine):
  Inv X pins σ (.O (.al ys)) { s with heap:=s.heap.push { cls:=.type "list", data:=.seq G.toArray },toks:=t' }:=
 I.laid (fun _ _ q=> .bD) .b8 ⟨hz,G,0,N,.ac⟩
theorem Inv.fresh (I:.u):H s.heap.objs.size=none:=I.hok.fresh .b8
theorem Inv.lstM (I:.u)(A:H l=some .eJ):xs.length≤sizeLine/\∃(G:.S) (n:Nat),Vals xs G/\xs.length=G.length/\s.heap.get? l=some { cls:=.type "list", data:=.seq G.toArray n }:=by
 obtain⟨z,G,n,r,e⟩:=I.hok l _ A
 exact⟨z,G,n,r,r.length,e⟩
theorem Ig {n:Nat}(h:n≤sizeLine):Builtin.List.listTooLong n=false:=by
 exact .g5
end
section
variable {X:Cx}
noncomputable def Lh:V->List V->Hp->VK->Prop:=fun x vs H Q=>∃l xs y,x=.ref l/\vs=[y]/\H l=some .eJ/\xs.length<sizeLine/\Q .non (.aj l (.al (xs++[y])))
theorem wH:Tt X "list.append" Lh:=by
 intro pins s σ H x vs v us Q I L f h
 obtain⟨l,xs,y,rfl,rfl,A,hz,q⟩:=h
 cases L
 obtain⟨u,rfl,W⟩:=f.one
 obtain⟨z,G,n,r,hl,e⟩:=I.lstM A
 refine call_meets F.slot_list_append ⟨_,e,rfl⟩ F.entry_list_append (F.args_list_append_2 _ _) (PySem.list_append l G.toArray n u (by rw [zaE];omega)) ⟨e,?_⟩
 refine⟨.non,_,I.lset A e .h (r.append (.ar W)) ?_,rfl,q⟩
 rw [zak,zau]
 omega
noncomputable def SR:R2:=fun x y H Q=>∃l b xs zs,x=.ref l/\y=.ref b/\H l=some .eJ/\H b=some (.al zs)/\xs.length+zs.length≤sizeLine/\∀p,H p=none->Q (.c p) (.aj p (.al (xs++zs)))
theorem Nt:pP X .gX SR:=by
 intro pins s σ H x y v u Q I L Z h
 obtain⟨l,b,xs,zs,rfl,rfl,A,hB,hz,q⟩:=h
 cases L
 cases Z
 obtain⟨z,G,n,r,hl,e⟩:=I.lstM A
 obtain⟨R,c,V,r2,TC,e2⟩:=I.lstM hB
 refine PySem.P.add_list e e2 ?_ (by rw [zaE,zaE];omega)
 have d:G.toArray++c.toArray=(G++c).toArray:=.h
 rw [d]
 exact⟨.ref _,_,I.lnew (r.append r2) (by rw [zak];omega),rfl,q _ I.fresh⟩
noncomputable def SY:R2:=fun x y H Q=>∃l k xs,x=.ref l/\y=.int k/\H l=some .eJ /\ -(2^63)≤k/\k<2^63/\xs.length*k.toNat≤sizeLine /\
 ∀p,H p=none->Q (.c p) (.aj p (.aw xs))
theorem len_rep {α:Type}(xs:List α)(k:Nat):(List.replicate k xs).flatten.length=k*xs.length:=by
 induction k with
 |zero=>simp
 |succ k A=>rw [zaM,zaX,zak,A,Nat.succ_mul,zcg]
theorem Nw:pP X (binaryOp .Mult) SY:=by
 intro pins s σ H x y v u Q I L Z h
 obtain⟨l,k,xs,rfl,rfl,A,h1,h2,hz,q⟩:=h
 cases L
 obtain⟨t,rfl⟩:=Z
 obtain⟨z,G,n,r,hl,e⟩:=I.lstM A
 have hlen:G.toArray.size*k.toNat≤sizeLine:=by rw [zaE,<- hl];exact hz
 have d:¬ G.toArray.size*k.toNat>(2^63-1)/8:=by
  have:(sizeLine:Nat)≤(2^63-1)/8:=.f
  omega
 have c:¬ (!Builtin.List.listFitsIndex k)=true:=by
  rw [fitsIndex_both h1 h2]
  exact zaR
 have b:¬ Builtin.List.listTooLong (G.toArray.size*k.toNat)=true:=by
  rw [Ig hlen]
  exact zaR
 have f:List.foldl (fun w g=>w++g) #[] (List.replicate (if G.toArray.isEmpty=true then 0 else k.toNat) G.toArray)=(List.replicate k.toNat G).flatten.toArray:=by
  have f0:=fun m=>by
   have:=foldl_rep G m []
   rw [za7] at this
   exact this
  rw [f0]
  cases G with
  |nil=>simp
  |cons a B=>rw [if_neg .h]
 refine wpAny_binaryOp_repeat_ref (T := "list") (U := "int") .f ⟨_,e,rfl⟩ (fun s'=>typeIs_int s' k t) noFill_list_mul F.fills_int_mul F.slot_int_rmul repeat_list F.slot_int_index.lookup
  (call_meets F.slot_int_rmul (typeIs_int s k t) F.entry_int_rmul (F.args_int_rmul_2 _ _) (int___rmul___int_list k t l G.toArray n)
   ⟨e,rfl,⟨_,e,rfl⟩,call_meets F.slot_list_mul ⟨_,e,rfl⟩ F.entry_list_mul (F.args_list_mul_2 _ _) (AutoListH.list___mul___list_int_3 l G.toArray n k t c d b) ⟨e,?_⟩⟩)
 rw [f]
 exact⟨.ref _,_,I.lnew (r.rep k.toNat) (by rw [len_rep,Nat.mul_comm];exact hz),rfl,q _ I.fresh⟩
end
section
variable {prog:.ah}{w:World}{A:Around}{E:.o}{s:Shared}
end
section
variable {X:Cx}
end
end L2
namespace Att
open PySem PySem.W PySem.Calls PyProof.Rows
theorem qS {P:Params}{h:Heap}:∀(ns:.eg) (vs:.S),WellAll P h vs (ns.map WData.int)->IntsAre vs ns:=by
 intro ns
 induction ns with
 |nil =>
  intro vs w
  cases w
  exact .nil
 |cons n ns A =>
  intro vs w
  cases w with
  |cons a b =>
   cases a
   exact .cons _ _ (A _ b)
theorem FP {l:OpenLaw}{n:Nat}(hn:l.most=some n){P:Params}{h:Heap}{args:List WData}{vals:.S}
  (b:l.row.toRowW.claim.pre args=true) (c:WellAll P h vals args):
  ∃a vs ns,vals=[Value.ref a]/\args=[WData.list (ns.map WData.int)]/\h.get? a=some { cls:=.type "list", data:=.seq vs.toArray }/\IntsAre vs ns/\ns.length≤n:=by
 have j:=(pre_splitW b).1
 have U:l.pre.holds [] { args:=args }=true:=(pre_splitW b).2
 obtain⟨d,r,rfl,h1,h2⟩:=hasAllW_cons j
 obtain rfl:=hasAllW_nil h2
 obtain⟨xs,rfl,W⟩:=hasW_list h1
 obtain⟨ns,rfl⟩:=items_int W
 have hlen:ns.length≤n:=by
  have N:(WTm.not (.lt (.lit (.int (n:Int))) (.len (.arg 0)))).holds [] { args:=[.list (ns.map .int)] }=true:=by
   have N:=(holds_andW U).1
   rw [hn] at N
   exact N
  have D:=condW_of N (w_not (w_lt w_lit (w_len_list (w_arg rfl))))
  refine Nat.le_of_not_lt fun q=>?_
  first
   |(rw [decide_eq_true T] at D;exact absurd D _)
   |(simp at D;omega)
 cases c with
 |cons S K =>
  cases K
  cases S with
  |list ho f=>exact⟨_,_,ns,rfl,rfl,ho,qS ns _ f,hlen⟩
theorem FK (l:OpenLaw)(args:List WData):l.row.toRowW.claim.post args .aq args=true:=
 postW_of
  (show WShape.has [] _ .bool=true by first | rfl | decide | simp [WShape.has])
  (w_eq_bool (w_res rfl) w_lit) rfl
theorem zF {l:OpenLaw}{n:Nat}{q:.ah}{loose:.V}{XP:.hT}{z:World->Heap->Prop}{d:DefRec}
  (hn:l.most=some n) (i:d.params.defaults=[])
  (call:∀(w:World) (Y8 g:Shared) (mg mb:.H) (fa:Addr) (o:Obj) (pm m doc:Value) (a:Addr) (vs:.S) (ns:.eg),
   Ground q loose [] XP w Y8 mg mb g.heap->z w g.heap ->
   g.heap.get? fa=some o->o.data=.func (docDef d.name d.params d.body d.scope pm m doc)->g.heap.CodeRec m d.name->mg d.name=some (.c fa) ->
   g.heap.get? a=some { cls:=.type "list", data:=.seq vs.toArray }->IntsAre vs ns->ns.length≤n->g.gens = #[] ->
   codeAny (model l.prog w) callerA .g0 .cw g):
  WalkO q loose XP z l.row.toRowW d [] (fun f vs=>PySem.call f vs):=by
 intro w Y8 g mg mb G Y fa o pm m doc h kV ho hd p A y M args vals as b e k c s
 obtain rfl:h=.none:=Dflts.none A i
 obtain rfl:kV=.none:=Dflts.noKw A
 obtain⟨a,vs,ns,rfl,rfl,j,hints,hlen⟩:=FP hn b c
 refine enter_call (codeAny_mono (call w Y8 g mg mb fa o pm m doc a vs ns G Y ho (fd_plain hd) p y j hints hlen M) fun r s' hq=>?_)
 obtain⟨rfl,h2,W,N⟩:=hq
 exact⟨.inl ⟨.bool true,.bool true,[],rfl,fun _=>rfl,.bool true,FK l _,fun _=>⟨List.Pairwise.nil,fun _ hm=>(nomatch hm)⟩⟩,h2,W,N⟩
section
variable {prog:.ah}{w:World}{A:Around}{E:.o}{s:Shared}{K:Frag}
end
end Att
namespace L2
open PySem PySem.Spec PyProof.Rows
theorem xa:∀{vs:.S} {ns:.eg},IntsAre vs ns->Vals (ns.map V.int) vs
 |_,_,.nil=>.nil
 |_,_,.cons n t h=>.cons ⟨t,rfl⟩ (xa h)
def Mu (H:Hp):Prop:=∀b,H b=none\/∃o xs,H b=some (.frz o .eJ)
theorem HI {P:.ah}{w:World}{K:.l}{mg mb:.H}{CX:ED}{k:Nat}{fa a:Addr}{fd:.eX}{x:Str}{sp:Sp}{g:Shared}{vs:.S}{ns:.eg}
  (C:K.In g.heap) (G:g.heap.Ns mainGlobals mg) (hb:g.heap.Ns builtinsNs mb) (p:∀x:Str,x≠"__name__"->mb x=bootBuiltins x) (I:g.heap.NoLimit) (M:g.gens = #[])
  (ha:g.heap.get? a=some { cls:=.type "list", data:=.seq vs.toArray }) (hi:IntsAre vs ns) (hl:ns.length≤sizeLine) (hr:ff k callerA)
  (F:∀base:Heap,K.In base->base.Ns mainGlobals mg->iS P w K mg base CX k fa fd [x] sp) (D:∀(s:Shared) (u:Value),BindsTo s fd ⟨[u],[]⟩ [(x,u)])
  (c:∀H:Hp,Mu H->gE K H a (ns.map V.int)->sp [.ref a] H (fun v _=>v=.bl true) fun _ _ _=>False)
  (E:∀H e s',CX [] H g (fun _ _ _=>False) e s'->False):
  codeAny .gz callerA .g0 .cw g:=by
 have f:=xa hi
 -- from an abstract heap in Q nothing but S y may be tracked
 have core:∀H:Hp,Mu H->gE K H a (ns.map V.int)->lW P w H g.heap->(∀b,H b≠none->b=a)->(H a≠none->K.lookup a=none) ->
   codeAny .gz callerA .g0 .cw g:=by
  intro H hO hS hok hA Y
  have i:∀{b:Addr} {o:Obj},g.heap.get? b=some o->H b=none->(xW g.heap H).get? b=some o:=fun e n=>Hw e n
  have t:∀{b:Addr} {o:Obj} {es:Array DictEntry} {ep:Nat},g.heap.get? b=some o->o.data=.dict es ep->H b=none:=fun {b o es ep} e d=>by grind
  have A:∀{b:Addr} {m:.H},g.heap.Ns b m->(xW g.heap H).Ns b m:=fun {b m} ⟨o,es,ep,e,d,r⟩=>⟨o,es,ep,i e (t e d),d,r⟩
  have N:=fun b o e=>i (C b o e) (by grind)
  have U:Mod K mg _:=⟨N,A G,⟨mb,A hb,p⟩,let ⟨W,h1,h2⟩:=I;⟨W,A h1,h2⟩⟩
  have L:Bu P w K mg _ callerA [] g H:=⟨rfl,U,fun b o e=>KO e,Nat.le_of_eq (Fl _ _),trivial,fun b hb=>absurd (show b∈([]:List Addr) from hb) .h,hok,.of_eq M⟩
  refine codeAny_mono ((F _ N (A G)).run callerA [] g H _ [.ref a] [.ref a] _ _ hr L (D g (.c a)) (.ar rfl) (c H hO hS)) fun r s' h=>?_
  cases r with
  |error e=>exact (E H e s' h).elim
  |ok fl =>
   cases fl with
   |next=>exact False.elim h
   |brk=>exact False.elim h
   |cont=>exact False.elim h
   |ret u =>
    obtain⟨v,H',os,bare,un,O,B,q⟩:=h
    have T:=q
    subst T
    obtain rfl:u=Value.bool true:=B
    refine⟨rfl,OldK.of_keep fun b o e=>?_,os,bare⟩
    cases q:H b with
    |none=>exact un.keep b o e q (by intro z;exact absurd (show b∈([]:List Addr) from z) .h) .h
    |some u =>
     rcases hO b with z | ⟨ob,xs,z⟩
     ·rw [q] at z;cases z
     ·have R:=un.frzs b ob _ z
      obtain⟨e1,_⟩:=hok b _ z
      obtain⟨e2,_⟩:=O b _ R
      rw [e] at e1;cases e1
      exact e2
 cases hk:K.lookup a with
 |some o =>
  -- S y is one of S l own objects
  have e:=C a o hk
  rw [ha] at e
  cases e
  refine core _ (fun _=>.inl rfl) (.inr ⟨_,vs.toArray,_,hk,rfl,rfl,rfl,by rw [List.size_toArray,hi.length];exact hl,by simpa using f⟩) (fun b u z=>by have Z:=z;cases Z) (fun b z=>absurd rfl z) fun z=>absurd rfl z
 |none =>
  refine core (fun b=>if b=a then some _ else none) (fun b=>?_) (.inl (.bg ⟨{ cls:=.type "list", data:=.seq vs.toArray },.eZ⟩)) (fun b u z=>?_) (fun b z=>?_) fun _=>hk
  ·by_cases hb:b=a
   ·exact .bg ⟨_,_,if_pos hb⟩
   ·exact .inl (if_neg hb)
  ·by_cases hb:b=a
   ·have Z:=(if_pos hb).symm.trans z
    cases Z
    subst hb
    exact⟨ha,by rw [zaf];exact hl,vs,_,f,ha⟩
   ·have Z:=(if_neg hb).symm.trans z
    cases Z
  ·by_cases hb:b=a
   ·exact hb
   ·exact absurd (if_neg hb) z
theorem Ex {l:PySem.W.OpenLaw}{n k:Nat}{q:.ah}{loose:.V}{XP:.hT}{z:World->Heap->Prop}{d:DefRec}{K:Params->PySem.W.Frag}{CX:World->ED}{sp:World->Sp}{x:Str}
  (hn:l.most=some n) (t:n≤sizeLine) (i:d.params.defaults=[]) (hr:ff k callerA)
  (b:∀(w:World) (h:Heap),z w h->(K w.params).In h)
  (F:∀(w:World) (mg:.H) (fa:Addr) (h:Heap),(K w.params).In h->h.Ns mainGlobals mg->mg d.name=some (.c fa) ->
   ∃fd:FuncData,(∀(s:Shared) (u:Value),BindsTo s fd ⟨[u],[]⟩ [(x,u)]) /\
    ∀base:Heap,(K w.params).In base->base.Ns mainGlobals mg->iS l.prog w (K w.params) mg base (CX w) k fa fd [x] (sp w))
  (c:∀(w:World) (H:Hp) (a:Addr) (ns:.eg),ns.length≤n->Mu H->gE (K w.params) H a (ns.map V.int)->sp w [.ref a] H (fun v _=>v=.bl true) fun _ _ _=>False)
  (E:∀(w:World) (H:Hp) (s:Shared) (e:Value) (s':Shared),CX w [] H s (fun _ _ _=>False) e s'->False):
  PySem.W.WalkO q loose XP z l.row.toRowW d [] (fun f vs=>PySem.call f vs):=by
 refine Att.zF hn i fun w Y8 g mg mb fa o pm m doc a vs ns G Y ho hd p y j hints hlen M=>?_
 have C:=b w _ Y
 obtain⟨fd,hb,D⟩:=F w mg fa _ C G.T.g y
 exact HI C G.T.g G.T.b G.T.builtins G.T.nolimit M j hints (zaG hlen t) hr D hb (fun H hO hS=>c w H a ns hlen hO hS) fun H e s'=>E w H g e s'
end L2
namespace L2
open PySem PySem.Spec PyProof.Rows
noncomputable def inClass (s:Stmt)(j:Nat):Stmt:=match s with
 | .ClassDef _ _ _ body _ _ _ _ _ _ _=>body.getD j (.Pass .gP)
 |_=>.Pass .gP
noncomputable def kC (s:Stmt):Arguments:=match s with
 | .FunctionDef _ a _ _ _ _ _ _ _ _=>a
 |_=>{ posonlyargs:=[],args:=[],vararg:=none,kwonlyargs:=[],kw_defaults:=[],kwarg:=none,defaults:=[] }
noncomputable def fw (s:Stmt):List Stmt:=match s with
 | .FunctionDef _ _ b _ _ _ _ _ _ _=>b
 |_=>[]
noncomputable def ax (s:Stmt):Scope:=match s with
 | .FunctionDef _ _ _ _ _ _ sc _ _ _=>sc
 |_=>{ kind:=.function,names:=[],isGenerator:=false,isCoroutine:=false }
abbrev uP:ED:=fun _ _ _ _ _ _=>False
abbrev E0:XK:=fun _ _ _=>False
theorem AO {X:Cx}:Passes uP X E0:=fun _ _ _ _ _ _ _ h=>h.elim
structure eP (K:.l)(x qual:Str)(st:Stmt)(f:Addr)(fd:.eX):Prop where
 ex:∃(oc:Value) (od:.cZ) (kV doc pm:Value) (an:.cZ) (cdv ct:Value) (osl:Array (Option Value)),
  fd=PySem.W.fnOf x qual (kC st) (fw st) (ax st) .none kV doc pm an cdv ct/\K.lookup f=some ⟨oc,od,.func fd,osl⟩/\PySem.W.codeIn K cdv qual=true
 kp:PySem.W.keepIn K (.c f)=true
section
variable {P:.ah}{w:World}{K:.l}{mg:.H}{base:Heap}
theorem eP.ok {x qual:Str}{st:Stmt}{f:Addr}{fd:.eX}{N ps:.V}{k:Nat}{sp:Sp}(F:.dt)(S:.g9)(len:∀vs H Q E,sp vs H Q E->vs.length=ps.length)
  (a:∀(cdv:Value) (A:Around) (outer:.eW) (s:Shared) (H:Hp) (vs:List V) (Q:VK) (E:XK),ff k .aG->sp vs H Q E ->
   ∃t,mY (sJ uP P w K mg base N qual (ax st) f cdv A outer s H E).nox (fw st) t/\t { nx:=fun _ H'=>Q .non H',rt:=Q } (start N vs) H):iS P w K mg base uP (k+1) f fd ps sp:=by
 obtain⟨oc,od,kV,doc,pm,an,cdv,ct,osl,rfl,lk,p⟩:=F.ex
 refine Pu lk p S len fun A outer s H vs Q E hr c=>?_
 obtain⟨t,h,q⟩:=a cdv A outer s H vs Q E hr c
 exact⟨t,h.nox,q⟩
theorem eP.binds {x qual:Str}{st:Stmt}{f:Addr}{fd:.eX}{ps:.V}(F:.dt)
  (h:∀(kV doc pm:Value) (an:.cZ) (cdv ct:Value) (us:.S),us.length=ps.length->bindArgs .cM ⟨us,[]⟩=pure (ps.zip us)):Binds K fd ps []:=by
 obtain⟨oc,od,kV,doc,pm,an,cdv,ct,osl,rfl,lk,p⟩:=F.ex
 exact .all (h kV doc pm an cdv ct)
theorem MV {x qual:Str}{st:Stmt}{f:Addr}{oc:Value}{od an:.cZ}{osl:Array (Option Value)}{kV doc pm cdv ct:Value}(l:K.lookup f=some ⟨oc,od,.func .cM,osl⟩)
  (c:PySem.W.codeIn K cdv qual=true) (k:PySem.W.keepIn K (.c f)=true):eP K x qual st f .cM:=⟨⟨oc,od,kV,doc,pm,an,cdv,ct,osl,rfl,l,c⟩,k⟩
end
theorem bN {n:Nat}(h:n≤1000):n<sizeLine:=zaK h .f
section
variable {X:Cx}
theorem pv (i:Nat){x:Str}{pos:Pos}(J:X.N[i]? = some x:=by rfl)(N:Oz X.env.scope x:=by first | exact Or.inl rfl | exact Or.inr .p | exact Or.inr .dy)(hd:.M=false:=by decide)
  (p:(x == ("__classdict__" : Str))=false:=by decide):PE X .cI (vN i):=NM J N hd p
end
def aW (H H':Hp):Prop:=∀b o,H b=some o->H' b=some o
theorem aW.refl (H:Hp):aW H H:=fun _ _ h=>h
theorem aW.trans {H H1 H2:Hp}(a:aW H H1)(b:aW H1 H2):aW H H2:=fun c o h=>b c o (a c o h)
theorem aW.free {H H':Hp}(e:aW H H'){l:Addr}(h:H' l=Option.none):H l=Option.none:=by
 cases q:H l with
 |none=>rfl
 |some o =>
  rw [e l o q] at h
  cases h
theorem aW.seq {K:.l}{H H':Hp}{a:Addr}{xs:List V}(e:aW H H')(h:gE K H a xs):gE K H' a xs:=by
 rcases h with (h | ⟨o,h⟩) | h
 ·exact .inl (.inl (e _ _ h))
 ·exact .inl (.bg ⟨o,e _ _ h⟩)
 ·exact .inr h
theorem Fu (o:Obj)(f:Array Value->Array Value):(o.mapFields f).dict=o.dict:=by
 obtain⟨c,d,t,l⟩:=o
 cases t<;>rfl
noncomputable def KD (g g':Heap)(e:Addr):Prop:=∀o,g.get? e=some o->∃o',g'.get? e=some o'/\o'.dict=o.dict
theorem KD.trans (x:KD g1 g2 e)(y:KD g2 g3 e):KD g1 g3 e:=fun o q=>by
 obtain⟨f,q1,E⟩:=x o q
 obtain⟨i,q2,J⟩:=y f q1
 exact⟨i,q2,J.trans E⟩
section
variable {M:Model}{A:Around}{E:.o}{s:Shared}{bs:Heap}{env:Env}{out:.eW}{L e:Addr}{a0 fl:Value}{oe:Obj}{vs:.cv}{Q:.dI}
theorem MN {nx:Bool}(v:A.frames=some (env::out))(hl:s.heap.FunFrames bs (env::out))(hf:env.frame=some L)(he:s.heap.get? e=some oe)(hk:bs.StaysIn s.heap)(hn:bs.get? e=none)
  (hd:oe.data=.fields vs) (hz:1<vs.size) (h0:vs[0]? = some a0)
  (hq:∀g',Heap.NotedW bs (env::out) e oe.cls a0 (rawInt L) s.heap g'->KD s.heap g' e->Q () { s with heap:=g' }):
  wpAny M A (do let a <- frameOf env;let pl <- entryPlaceOf L nx;let b <- EntryCells.newEntry d a .none (rawInt L) .none pl;setField (.c e) 1 b) Q E s:=by
 have N:e∉(env::out).filterMap _:=fun m=>by
  obtain⟨_,o,q,C⟩:=hl.mem m
  rw [he] at q
  cases q
  exact C vs hd
 refine .f (wpAny_frameOf_fun v hl hf fun j t1=>wpAny_bind (wpAny_entryPlaceOf fun pl l=>?_))
 refine .f (wpAny_newObj_type ?_ (l.sizeOk5 _ _ _ _ _))
 have e1:=(t1.2.1 e N).trans he
 have k1:bs.StaysIn j:=fun b o q=>(t1.2.1 b fun m=>by rw [(hl.mem m).1] at q;cases q).trans (hk b o q)
 obtain⟨ob,c⟩:∃ob:Obj,ob={ cls:=.type "traceback", dict:=none,data:=.fields ([d,.ref L,.none,rawInt L,.none]++(if pl.isEmpty then List.replicate 6 Value.none else pl)).toArray }:=⟨_,rfl⟩
 have f:ob.data=.fields ([d,.ref L,.none,rawInt L,.none]++(if pl.isEmpty then List.replicate 6 Value.none else pl)).toArray:=by rw [c]
 rw [<- c]
 have e2:=Heap.get?_push_of_some ob e1
 have g:=za6 (.aS e1)
 obtain⟨fn,t⟩:∃fn:Array Value->Array Value,fn=(·.setIfInBounds 1 (Value.ref j.objs.size)):=⟨_,rfl⟩
 have d3:=Obj.data_mapFields hd fn
 have e3:=Heap.get?_update_self _ e2 (Obj.isFreed_of_fields d3)
 have kp:∀b o,b≠e->j.get? b=some o->((j.push ob).update e (Obj.mapFields fn)).get? b=some o:=fun b o n q=>by
  rw [Heap.get?_update_other _ _ (.a2 n)]
  exact .bD
 have i:∀b o,s.heap.get? b=some o->(∀ws,o.data≠.fields ws)->b≠e:=fun b o q C z=>by
  rw [z,he] at q
  cases q
  exact C vs hd
 have dd:KD s.heap _ e:=fun o q=>by
  rw [he] at q
  cases q
  exact⟨_,e3,Fu _ _⟩
 refine wpAny_setField e2 hd hz (t ▸ hq _ ⟨fun b o q=>kp b o (fun z=>by rw [z,hn] at q;cases q) (k1 b o q),hl.of_keeps fun b o q C=>?_,?_,fun b o q C=>?_⟩ dd)
 ·obtain⟨sl,z⟩:=t1.2.2 b o q
  exact⟨_,kp b _ (i b o q C) z,rfl⟩
 ·refine⟨_,_,j.objs.size,_,_,e3,⟨Obj.cls_mapFields _ _,?_⟩,d3,?_,k1.fresh,g,((Heap.get?_update_other (j.push ob) (Obj.mapFields fn) (.a2 g)).trans (Heap.get?_push_size j (by rw [c];rfl))),f,?_⟩
  ·rw [t,Array.getElem?_setIfInBounds_ne .f];exact h0
  ·rw [t];simp [hz]
  ·first | (simp;done) | (rcases l with rfl | ⟨_,_,_,_,_,_,_,rfl⟩<;>simp)
 ·obtain⟨sl,z⟩:=t1.2.2 b o q
  exact⟨sl,kp b _ (i b o q C) z⟩
theorem Nn (v:A.frames=some (env::out))(hl:s.heap.FunFrames bs (env::out))(hf:env.frame=some L)(Y:s.heap.TracedW bs e cls a0)(hk:bs.StaysIn s.heap)(hn:bs.get? e=none)
  (hq:∀g',Heap.NotedW bs (env::out) e cls a0 (rawInt L) s.heap g'->KD s.heap g' e->Q () { s with heap:=g' }):wpAny M A (noteFrame (.c e) env) Q E s:=by
 obtain⟨ox,ws,T,oT,ts,w,⟨rfl,g⟩,j,B,c,J,O,G,d⟩:=Y
 unfold noteFrame
 simp only [hf]
 refine .f (wpAny_field w j B ?_)
 refine .f (wpAny_field O G d ?_)
 refine .f (wpAny_setField O G (zbe.mp d).1 ?_)
 have a:∀b,b≠T->(s.heap.update T (Obj.mapFields (·.setIfInBounds 3 Value.none))).get? b=s.heap.get? b:=fun b n=>Heap.get?_update_other _ _ (.a2 n)
 have i:∀b o,s.heap.get? b=some o->(∀us,o.data≠.fields us)->b≠T:=fun b o q C z=>by
  rw [z,O] at q
  cases q
  exact C ts G
 refine MN v (hl.of_keeps fun b o q C=>⟨o,(a b (i b o q C)).trans q,rfl⟩) hf ((a e (.a2 J)).trans w) (fun b o q=>(a b fun z=>by rw [z,c] at q;cases q).trans (hk b o q)) hn j (zbe.mp B).1 g fun g' y k=>?_
 obtain⟨p,K,I,V⟩:=y
 refine hq g' ⟨p,K,I,fun b o q C=>V b o ((a b (i b o q C)).trans q) C⟩ fun o q=>k o ((a e (.a2 J)).trans q)
theorem Ds (hk:bs.StaysIn s.heap)(hl:s.heap.FunFrames bs l)(Y:s.heap.TracedAtW bs e cls a0 fl)(hn:bs.get? e=none)
  (hq:∀g',Heap.FlyingW bs l e cls a0 g'->s.heap.UpToSlots g'->KD s.heap g' e->Q () { s with heap:=g' }):wpAny M A (setFlight (.c e) none) Q E s:=by
 obtain⟨ox,ws,T,oT,ts,w,g,j,B,c,J,O,G,d⟩:=Y
 have D:=(zbe.mp d).1
 obtain⟨fn,t⟩:∃fn:Array Value->Array Value,fn=(·.setIfInBounds 3 ((none:.cZ).elim Value.none fun f=>rawInt f)):=⟨_,rfl⟩
 have a:∀b,b≠T->(s.heap.update T (Obj.mapFields fn)).get? b=s.heap.get? b:=fun b n=>Heap.get?_update_other _ _ (.a2 n)
 have i:∀b o,s.heap.get? b=some o->(∀us,o.data≠.fields us)->b≠T:=fun b o q C z=>by
  rw [z,O] at q
  cases q
  exact C ts G
 refine .f (wpAny_field w j B ?_)
 refine wpAny_setField O G D (t ▸ hq _ ⟨fun b o q=>(a b fun z=>by rw [z,c] at q;cases q).trans (hk b o q),hn,hl.of_keeps fun b o q C=>⟨o,(a b (i b o q C)).trans q,rfl⟩,?_⟩ (fun b o q C=>⟨o.slots,(a b (i b o q C)).trans q⟩) fun o q=>⟨o,(a e (.a2 J)).trans q,rfl⟩)
 exact⟨ox,ws,T,_,_,(a e (.a2 J)).trans w,g,j,B,c,J,Heap.get?_update_self _ O (Obj.isFreed_of_fields (Obj.data_mapFields G _)),Obj.data_mapFields G _,by rw [t];simp [D]⟩
end
abbrev vE:List Value:=[.bc, .bp, .aL, .ak]
structure lY (K:.l)(C:Addr)(bm:.S)(ini:.dC):Prop where
 ex:∃N nm q bs hdct sn sub ab col dd k0 k1 k2 k3 k5 od es ep,K.lookup C=some (excClassObj nm q C N bs bm hdct sn sub ab col dd k0 k1 k2 k3 k5 "ValueError.__new__")/\K.lookup N=some od/\od.data=.dict es ep/\es.all (fun e=>match e.key with | .str _ _=>true | _=>false)=true/\nsFind es "__init__" = ini
theorem lY.at {K:.l}{C:Addr}{bm:.S}{ini:.dC}(x:lY K C bm ini):∃N nm q bs hdct sn sub ab col dd k0 k1 k2 k3 k5 n,(∀h,K.In h->h.get? C=some (excClassObj nm q C N bs bm hdct sn sub ab col dd k0 k1 k2 k3 k5 "ValueError.__new__")/\h.Ns N n)/\n "__init__" = ini:=by
 obtain⟨N,nm,q,bs,hdct,sn,sub,ab,col,dd,k0,k1,k2,k3,k5,od,es,ep,e1,e2,e3,e4,e5⟩:=x.ex
 refine⟨N,nm,q,bs,hdct,sn,sub,ab,col,dd,k0,k1,k2,k3,k5,nsFind es,fun h k=>⟨k _ _ e1,?_⟩,e5⟩
 have J:h.isNs N=true:=by
  unfold Heap.isNs
  rw [k _ _ e2]
  dsimp only
  rw [e3]
  exact e4
 obtain⟨o,g,i,f1,f2,T,f4⟩:=Heap.Ns.of_isNs J
 rw [k _ _ e2] at f1
 cases f1
 rw [e3] at f2
 cases f2
 exact⟨_,es,ep,k _ _ e2,e3,T,fun _=>rfl⟩
structure RT (K:.l)(C:Addr)(up:.af)(ini:.dC):Prop where
 cls:lY K C (up.map Value.ref++vE) ini
 ups:∀A∈up,∃bm,lY K A bm none
section
variable {X:Cx}{pins:.v}{σ:St}{H:Hp}{s:Shared}{C:Addr}{up:.af}{x:Str}{np cpos pos:Pos}{e:Expr}{t:TA}
end
def OT (od:.cZ)(a:Addr)(h:Heap):Prop:=∃oe,h.get? a=some oe/\oe.dict=od
theorem OT.kd (x:OT od a h)(k:KD h h' a):OT od a h':=by
 obtain⟨oe,q,e1⟩:=x
 obtain⟨o',T,e2⟩:=k oe q
 exact⟨o',T,e2.trans e1⟩
structure RU (P:.ah)(w:World)(outer:.eW)(H:Hp)(s:Shared)(C a:Addr)(od:.cZ)(H':Hp)(s':Shared):Prop where
 os:s'.os=s.os
 bare:AllBare s'.gens
 un:Un (wt outer) [] H H' s.heap s'.heap
 hok:lW P w H' s'.heap
 new:s.heap.get? a=none
 nH:H' a=none
 fl:∃B a0,Heap.FlyingW B outer a (.c C) a0 s'.heap/\∀b o,s'.heap.get? b=some o->(H' b≠none\/((∃o',s.heap.get? b=some o')/\b∉wt outer))->B.get? b=some o
 dc:OT od a s'.heap
noncomputable def Made (X:Cx)(pins:.v)(σ:St)(H:Hp)(C:Addr)(od:.cZ)(e:Value)(s':Shared):Prop:=
 ∃a oe vs a0,e=.ref a/\Inv X pins σ H s'/\H a=none/\X.Y8.heap.get? a=none/\s'.heap.get? a=some oe/\oe.cls=.ref C/\oe.data=.fields vs/\vs[0]? = some a0/\vs[1]? = some .none/\oe.dict=od
noncomputable def OS (X:Cx)(pins:.v)(σ:St)(H:Hp)(C:Addr)(od:.cZ)(e:Value)(s':Shared):Prop:=∃a s H0,e=.ref a/\Inv X pins σ H0 s/\RU X.prog X.w X.stack H0 s C a od H s'
section
variable {X:Cx}{pins:.v}{σ:St}{H H0:Hp}{s s':Shared}{C a:Addr}{od:.cZ}{h1 h' B:Heap}
end
noncomputable abbrev Cx.inS (X:Cx)(e:Value):Cx:={ X with A:=X.A.mark (some e),calm:=false,xe:=fun _ _=>False }
section
variable {X:Cx}{pins:.v}{σ:St}{H H0:Hp}{s s':Shared}{C D a:Addr}{od:.cZ}{h1 h' B:Heap}
theorem Inv.inS (I:.u)(e:Value):Inv (X.inS e) pins σ H s:=
 ⟨⟨I.ok.mod,I.ok.kind,I.ok.glob,I.ok.blt,I.ok.above,I.ok.inj,I.ok.has,I.ok.cab,.bo,I.ok.frames,I.ok.stk,I.ok.exf,I.ok.bs,I.ok.bsz,I.ok.noex,I.ok.exfs,I.ok.funs,I.ok.frf⟩,I.os,I.bare,I.base,I.loc,I.cell,I.free,I.freeC,I.pin,I.hok,I.len⟩
theorem Inv.outS (ok:X.Ok)(I:Inv (X.inS e) pins σ H s):Inv X pins σ H s:=⟨ok,I.os,I.bare,I.base,I.loc,I.cell,I.free,I.freeC,I.pin,I.hok,I.len⟩
noncomputable def oG (a C:Addr)(od:.cZ):Heap->Prop:=fun h=>∃oe vs,h.get? a=some oe/\oe.cls=.ref C/\oe.data=.fields vs/\oe.dict=od
theorem tf (l:Inv X pins σ H0 s)(F:RU X.prog X.w X.stack H0 s C a od H s')(hB:B.StaysIn h')(h:∀b o,s'.heap.get? b=some o->(H b≠none\/((∃o',s.heap.get? b=some o')/\b∉wt X.stack))->B.get? b=some o)
  (up:s'.heap.UpToSlots h') (he:oG a C od h') {tk:Nat}:Inv X pins σ (upd H a (.ext (oG a C od))) { s' with heap:=h',toks:=tk }:=by
 have d:=F.un
 have ne:∀b u,H b=some u->b≠a:=fun b u e z=>by rw [z,F.nH] at e;cases e
 have ne':∀b o,s.heap.get? b=some o->b≠a:=fun b o e z=>by rw [z,F.new] at e;cases e
 have Oj:∀b u o,H b=some u->s'.heap.get? b=some o->h'.get? b=some o:=fun b u o e e1=>hB _ _ (h b o e1 (.inl (by rw [e];simp)))
 have kept:=fun b o e hb f e1=>hB _ _ (h b f e1 (.bg ⟨⟨o,e⟩,hb⟩))
 have slot:∀b o,s.heap.get? b=some o->H0 b=none->b∈wt X.stack->∃sl,h'.get? b=some { o with slots:=sl }:=fun b o e n hb=>by
  obtain⟨sl,e1⟩:=d.slot b o e n hb .h
  obtain⟨_,i,e2,J⟩:=l.stack.mem hb
  rw [e] at e2
  cases e2
  obtain⟨g,e3⟩:=up b _ e1 J
  exact⟨g,e3⟩
 refine l.call' (ch:=[]) F.os ⟨fun b o e n hb hx=>?_,fun b o e n hb hx=>slot b o e n hb,fun b o e n hx=>?_,fun b o e hx=>?_,fun b xs e=>?_,fun b o u e=>?_,fun b ps e=>?_⟩ (fun b u e=>?_) F.bare fun b hb=>absurd hb .h
 ·exact kept b o e hb o (d.keep b o e n hb hx)
 ·rw [ay (ne' b o e)];exact d.free b o e n hx
 ·obtain⟨f,e1⟩:=d.there b o e hx
  by_cases hb:b∈wt X.stack
  ·obtain⟨sl,q⟩:=slot b o e (l.stkFree b hb) hb
   exact⟨_,q⟩
  ·exact⟨f,kept b o e hb f e1⟩
 ·have:=d.tups b xs e
  rw [ay (ne b _ this)];exact this
 ·have:=d.frzs b o u e
  rw [ay (ne b _ this)];exact this
 ·obtain⟨more,this⟩:=d.tbls b ps e
  exact⟨more,by rw [ay (ne b _ this)];exact this⟩
 ·by_cases hb:b=a
  ·subst hb
   rw [aM] at e
   cases e
   obtain⟨oe,vs,q⟩:=id he
   exact⟨he,⟨oe,q.1⟩,fun j m ⟨f,v1,q1⟩ k=>⟨f,v1,k _ q1.1,q1.2⟩⟩
  ·rw [ay hb] at e
   refine (F.hok b u e).stay (fun c w U q=>?_) (fun c q=>?_) fun c xs q=>?_
   ·rcases U with rfl | U
    ·exact Oj _ u w e q
    ·exact Oj _ _ w U q
   ·rw [ay (ne c _ q)];exact q
   ·rw [ay (ne c _ q)];exact q
theorem wg {K:.l}{b:Bool}(k:K.In s.heap)(cC:lY K C bC iC)(cD:lY K D bD iD)(hbD:bD.contains .fe=true)(hb:(Value.ref C::bC).contains (.c D)=b)(he:oG a C od s.heap)
  {Q:Bool->Shared->Prop} (hq:Q b s):wpAny M A (excMatches (.c a) (.c D)) Q E s:=by
 obtain⟨N,nm,q,bs,hdct,sn,sub,ab,col,dd,k0,k1,k2,k3,k5,mN,e1,_⟩:=cC.at
 obtain⟨N',nm',q',bs',hdct',sn',sub',ab',col',dd',j0,j1,j2,j3,j5,mN',e1',_⟩:=cD.at
 have hC:=(e1 _ k).1
 have hDc:=(e1' _ k).1
 obtain⟨oe,vs,g1,g2,g3,g4⟩:=he
 have hcB:(Value.ref D::bD).contains .fe=true:=by rw [List.contains_cons,hbD,Bool.or_true]
 have f:=PySem.tc_notTuple
 obtain⟨hp,g,d,tk,os⟩:=s
 unfold excMatches
 cases b with
 |true =>
  repeat (first
   |(with_reducible refine wpAny_loadPart_at g1 ?_;rw [g2])
   |(with_reducible refine wpAny_loadPart_at hDc ?_)
   |(with_reducible refine zbm hDc ?_;rw [hcB])
   |(with_reducible refine zbm hC ?_;rw [hb])
   | wp_step)
  exact hq
 |false =>
  repeat (first
   |(with_reducible refine wpAny_loadPart_at g1 ?_;rw [g2])
   |(with_reducible refine wpAny_loadPart_at hDc ?_)
   |(with_reducible refine zbm hDc ?_;rw [hcB])
   |(with_reducible refine zbm hC ?_;rw [hb])
   | wp_step)
  exact hq
end
theorem wq (x:Heap.FlyingW B l a (.c C) a0 h)(dc:OT od a h):oG a C od h:=by
 obtain⟨_,_,_,oe,vs,T,oT,ts,e1,e2,e3,_⟩:=x
 obtain⟨o',q,j⟩:=dc
 rw [e1] at q
 cases q
 exact⟨oe,vs,e1,e2.1,e3,j⟩
noncomputable def pO (X:Cx)(pins:.v)(σ:St)(H:Hp)(C:Addr)(od:.cZ)(a:Addr)(s5:Shared):Prop:=
 ∃s s' H0 B a0,Inv X pins σ H0 s/\RU X.prog X.w X.stack H0 s C a od H s'/\Heap.FlyingW B X.stack a (.c C) a0 s5.heap/\(∀b o,s'.heap.get? b=some o->(H b≠none\/((∃o',s.heap.get? b=some o')/\b∉wt X.stack))->B.get? b=some o) /\
  s'.heap.UpToSlots s5.heap/\KD s'.heap s5.heap a/\s5={ s' with heap:=s5.heap }
section
variable {X:Cx}{pins:.v}{σ:St}{H:Hp}{s' s5:Shared}{C D a:Addr}{od:.cZ}{bC bD:.S}{iC iD:.dC}{e:Value}{i:Nat}{n x:Str}{Y6:Stmt}{suite:.bB}{np pos:Pos}{Dn:Ends}{E:.o}{hs:List ExceptHandler}
theorem pO.inv (z:pO X pins σ H C od a s5):H a=none/\Inv X pins σ (upd H a (.ext (oG a C od))) s5/\oG a C od s5.heap:=by
 obtain⟨s,s',H0,B,a0,l,F,c,h,u,kd,e5⟩:=z
 have he:=wq c (F.dc.kd kd)
 exact⟨F.nH,by rw [e5];exact (tf (tk:=s'.toks) l F c.1 h u he),he⟩
theorem BE (J:X.stack=X.env::X.outer)(hf:X.env.frame=some X.env.locals)(z:OS X pins σ H C od e s')
  (S:∀a s5,e=.ref a->pO X pins σ H C od a s5->wpAny .t X.A (.aQ hs) .hH E s5):
  wpAny .t X.A (noteFrame e X.env) (fun _ d=>wpAny .t X.A (setFlight e none) (fun _ c=>wpAny .t X.A (handleBy e X.env hs) .hH E c) E d) E s':=by
 obtain⟨a,s,H0,rfl,l,F⟩:=z
 obtain⟨B,a0,fl,h⟩:=F.fl
 have v:=l.ok.frames
 rw [J] at fl v
 obtain⟨f1,f2,T,f4⟩:=fl
 refine Nn v T hf f4 f1 f2 fun j y k1=>?_
 obtain⟨p,K,I,V⟩:=y
 refine Ds p K I f2 fun m f u k2=>?_
 refine S a _ rfl ⟨s,s',H0,B,a0,l,F,?_,h,Heap.UpToSlots.trans (fun b o q g=>V b o q g) u,k1.trans k2,rfl⟩
 rw [J]
 exact f
theorem Fi (z:pO X pins σ H C od a s5)(I:lY X.K C bC iC)(O:lY X.K D bD iD)(j:bD.contains .fe=true)(A:(Value.ref C::bC).contains (.c D)=false)
  (M:Gl X x) (hm:X.mg x=some (.c D)) (hr:wpAny .t X.A (.aQ hs) .hH E s5) (v:.M=false:=by decide):
  wpAny .t X.A (.aQ (.ExceptHandler (.Z x np) nm b pos::hs)) .hH E s5:=by
 obtain⟨nH,G,he⟩:=z.inv
 refine wpAny_handleBy_cons (codeAny_handlers_test ?_) (by intro q;cases q)
 refine oW (G.inS (.c a)) M hm ?_ v
 exact wg G.kIn I O j A he hr
theorem B4 (z:pO X pins σ H C od a s5)(I:lY X.K C bC iC)(O:lY X.K D bD iD)(j:bD.contains .fe=true)(A:(Value.ref C::bC).contains (.c D)=true)
  (M:Gl X x) (hm:X.mg x=some (.c D))
  (g:∀s2,H a=none->Inv (X.inS (.c a)) pins σ (upd H a (.ext (oG a C od))) s2->wpAny .t (X.A.mark (.U a)) (execs (Y6::suite) X.env) (SP (X.inS (.c a)) pins Dn) .aE s2)
  (v:.M=false:=by decide):
  wpAny .t X.A (.aQ (.ExceptHandler (.Z x np) none (Y6::suite) pos::hs)) .hH E s5:=by
 obtain⟨nH,G,he⟩:=z.inv
 obtain⟨s,s',H0,B,a0,l,F,c,h,u,kd,e5⟩:=z
 refine wpAny_handleBy_cons (codeAny_handlers_test ?_) (by intro q;cases q)
 refine oW (G.inS (.c a)) M hm ?_ v
 refine wg G.kIn I O j A he ?_
 show codeAny _ _ _ _ _
 refine codeAny_handlers_suite ?_
 obtain⟨f1,f2,T,f4⟩:=c
 refine Ds f1 T f4.at f2 fun p J m t=>?_
 have k:=tf (tk:=s'.toks) l F J.1 h (u.trans m) (wq J (F.dc.kd (kd.trans t)))
 rw [e5]
 refine wpAny_mono (g _ F.nH (k.inS (.c a))) (fun f b o=>?_) fun _ _ q=>False.elim q
 cases f with
 |next=>obtain⟨σ',H',d,q⟩:=o;exact⟨σ',H',d.outS l.ok,q⟩
 |brk=>obtain⟨σ',H',d,q⟩:=o;exact⟨σ',H',d.outS l.ok,q⟩
 |cont=>obtain⟨σ',H',d,q⟩:=o;exact⟨σ',H',d.outS l.ok,q⟩
 |ret u=>obtain⟨w,σ',H',d,r,q⟩:=o;exact⟨w,σ',H',d.outS l.ok,r,q⟩
end
section
variable {prog:.ah}{w:World}{A:Around}{E:.o}{h:Heap}{g:Array GenState}{d:Drawn}{t:Nat}{os:OsState}{a C:Addr}{o:Obj}{K:.l}{bm:.S}
end
open Builtin Builtin.ObjectAttr
section
variable {prog:.ah}{w:World}{A:Around}{E:.o}{s:Shared}{K:.l}{x C:Addr}{ox:Obj}{od:Option Obj}{name:Str}{tk:Tok}{v:Value}{R:.dR}
end
section
variable {X:Cx}{pins:.v}{σ:St}{H:Hp}{s:Shared}{a C:Addr}{f:Str}
end
end L2
namespace TM
open PySem PySem.Spec PyProof.Rows L2
inductive T where
 |non | bl (b:Bool) | int (i:Int) | str (x:Str) | ty (n:String) | tup (ts:List T) | lst (ts:List T) | scr (ts:List T) | dct (ns:.V) (ts:List T) | obj (C:Addr) (ns:.V) (ts:List T) | ptr (a:Addr) | exc (C:Addr) (ns:.V) (ts:List T)
abbrev T.dic:T:=.dct [] []
def cK:List Str->List V->List (Key×V)
 |n::ns,v::vs=>(.inr n,v)::cK ns vs
 |_,_=>[]
mutual
def Rep (K:.l)(F:Hp):T->V->Prop
 | .non,v=>v=.non
 | .bl b,v=>v=.bl b
 | .int i,v=>v=.int i
 | .str x,v=>v=.str x
 | .ty n,v=>v=.ty n
 | .tup ts,v=>∃a xs,v=.ref a/\nv K F a xs/\aU K F ts xs
 | .lst ts,v=>∃a xs,v=.ref a/\F a=some .eJ/\aU K F ts xs
 | .scr ts,v=>∃a xs,v=.ref a/\gE K F a xs/\aU K F ts xs
 | .dct ns ts,v=>∃a o vs,v=.ref a/\F a=some (.frz o (.dK (cK ns vs)))/\vs.length=ns.length/\aU K F ts vs
 | .obj C ns ts,v=>∃a dx vs,v=.ref a/\F a=some (.ax (ns.zip vs))/\vs.length=ns.length/\aU K F ts vs
 | .ptr a,v=>v=.ref a
 | .exc C ns ts,v=>∃a od,v=.ref a/\F a=some (.ext (oG a C od))/\((ns=[]/\ts=[]/\od=none)\/∃d us,od=some d/\F d=some (.xd (ns.zip us))/\us.length=ns.length/\aU K F ts us)
def aU (K:.l)(F:Hp):List T->List V->Prop
 |[],xs=>xs=[]
 |t::ts,xs=>∃v r,xs=v::r/\Rep K F t v/\aU K F ts r
end
theorem cw {K:.l}{H H':Hp}{a:Addr}{xs:List V}(e:aW H H')(h:nv K H a xs):nv K H' a xs:=by
 rcases h with (h | ⟨o,h⟩) | h
 ·exact .inl (.inl (e _ _ h))
 ·exact .inl (.bg ⟨o,e _ _ h⟩)
 ·exact .inr h
mutual
theorem Rep.mono {K:.l}{F F':Hp}(e:aW F F'):∀{t:T} {v:V},Rep K F t v->Rep K F' t v
 | .non,_,h=>h
 | .bl _,_,h=>h
 | .int _,_,h=>h
 | .str _,_,h=>h
 | .ty _,_,h=>h
 | .tup ts,_,h=>by
  obtain⟨a,xs,h1,h2,W⟩:=h
  exact⟨a,xs,h1,cw e h2,aU.mono e W⟩
 | .lst ts,_,h=>by
  obtain⟨a,xs,h1,h2,W⟩:=h
  exact⟨a,xs,h1,e _ _ h2,aU.mono e W⟩
 | .scr ts,_,h=>by
  obtain⟨a,xs,h1,h2,W⟩:=h
  exact⟨a,xs,h1,e.seq h2,aU.mono e W⟩
 | .dct ns ts,_,h=>by
  obtain⟨a,o,vs,h1,h2,W,N⟩:=h
  exact⟨a,o,vs,h1,e _ _ h2,W,aU.mono e N⟩
 | .obj C ns ts,_,h=>by
  obtain⟨a,dx,vs,h1,h2,W,N⟩:=h
  exact⟨a,dx,vs,h1,e _ _ h2,W,aU.mono e N⟩
 | .ptr _,_,h=>h
 | .exc _ _ ts,_,h=>by
  obtain⟨a,od,h1,h2,W⟩:=h
  refine⟨a,od,h1,e _ _ h2,W.imp id fun⟨d,us,k1,k2,k3,L⟩=>⟨d,us,k1,e _ _ k2,k3,aU.mono e L⟩⟩
theorem aU.mono {K:.l}{F F':Hp}(e:aW F F'):∀{ts:List T} {vs:List V},aU K F ts vs->aU K F' ts vs
 |[],_,h=>h
 |t::ts,_,h=>by
  obtain⟨v,r,h1,h2,W⟩:=h
  exact⟨v,r,h1,Rep.mono e h2,aU.mono e W⟩
end
section
variable {K:.l}{F:Hp}
theorem aU.length:∀{ts:List T} {vs:List V},aU K F ts vs->vs.length=ts.length
 |[],_,h=>by cases h;rfl
 |t::ts,_,h=>by
  obtain⟨v,r,rfl,h2,W⟩:=h
  simp [aU.length W]
theorem aU.get:∀{ts:List T} {vs:List V} {i:Nat} {t:T},aU K F ts vs->ts[i]? = some t->∃v,vs[i]? = some v/\Rep K F t v
 |[],_,_,_,h,e=>by simp at e
 |t::ts,_,0,_,h,e=>by
  obtain⟨v,r,rfl,h2,W⟩:=h
  simp at e;subst e
  exact⟨v,rfl,h2⟩
 |t::ts,_,i+1,u,h,e=>by
  obtain⟨v,r,rfl,h2,W⟩:=h
  obtain⟨w,N,D⟩:=aU.get W .fE
  exact⟨w,by simpa using N,D⟩
theorem aU.append:∀{ts us:List T} {vs ws:List V},aU K F ts vs->aU K F us ws->aU K F (ts++us) (vs++ws)
 |[],_,_,_,h,h'=>by cases h;exact h'
 |t::ts,_,_,_,h,h'=>by
  obtain⟨v,r,rfl,h2,W⟩:=h
  exact⟨v,r++_,rfl,h2,aU.append W h'⟩
theorem aU.one (h:.fW):aU K F [t] [v]:=⟨v,[],rfl,h,rfl⟩
theorem aU.take:∀{ts:List T} {vs:List V} (n:Nat),aU K F ts vs->aU K F (ts.take n) (vs.take n)
 |_,_,0,_=>rfl
 |[],_,n+1,h=>by cases h;rfl
 |t::ts,_,n+1,h=>by
  obtain⟨v,r,rfl,h2,W⟩:=h
  exact⟨v,r.take n,rfl,h2,aU.take n W⟩
theorem aU.drop:∀{ts:List T} {vs:List V} (n:Nat),aU K F ts vs->aU K F (ts.drop n) (vs.drop n)
 |_,_,0,h=>h
 |[],_,n+1,h=>by cases h;rfl
 |t::ts,_,n+1,h=>by
  obtain⟨v,r,rfl,h2,W⟩:=h
  exact aU.drop n W
theorem aU.rev:∀{ts:List T} {vs:List V},aU K F ts vs->aU K F ts.reverse vs.reverse
 |[],_,h=>by cases h;rfl
 |t::ts,_,h=>by
  obtain⟨v,r,rfl,h2,W⟩:=h
  rw [zbo,zbo]
  exact (aU.rev W).append (.one h2)
theorem wL:∀ns:List Int,aU K F (ns.map T.int) (ns.map V.int)
 |[]=>rfl
 |n::ns=>⟨.int n,ns.map V.int,rfl,rfl,wL ns⟩
end
structure bj (F H F' H':Hp):Prop where
 sF:aW F F'
 sH:aW H H'
 fh:aW F' H'
 nw:∀a o,F' a=some o->F a=some o\/H a=none
theorem bj.refl (h:aW F H):bj F H F H:=⟨aW.refl _,aW.refl _,h,fun _ _ e=>.inl e⟩
theorem bj.trans (a:bj F H F1 H1)(b:bj F1 H1 F2 H2):bj F H F2 H2:=
 ⟨a.sF.trans b.sF,a.sH.trans b.sH,b.fh,fun x o e=>by
  rcases b.nw x o e with e | e
  ·exact a.nw x o e
  ·exact .inr (a.sH.free e)⟩
theorem dC {H:Hp}(h:H p=none):aW H (.aj p o):=fun b u q=>by rw [ay (bp q h)];exact q
theorem bj.new (o:HO)(h:aW F H)(n:H p=none):bj F H (upd F p o) (.aj p o):=by
 refine⟨dC (h.free n),dC n,fun b u q=>?_,fun a u q=>?_⟩
 ·by_cases e:b=p
  ·subst e;rw [aM] at q ⊢;exact q
  ·rw [ay e] at q ⊢;exact h _ _ q
 ·by_cases e:a=p
  ·subst e;exact .inr n
  ·rw [ay e] at q;exact .inl q
inductive Sl where
 |sh (t:T) | own (ts:List T)
abbrev aE:=List (Option Sl)
noncomputable def Bx (K:.l)(Y9 F H:Hp):Sl->V->Prop
 | .sh t,v=>Rep K F t v
 | .own ts,v=>∃p vs,v=.ref p/\H p=some .ev/\F p=none/\Y9 p=none/\aU K F ts vs
structure aJ (K:.l)(Y0 Y9 F H:Hp)(σ:L2.St)(τ:aE):Prop where
 g:bj Y0 Y9 F H
 len:σ.length=τ.length
 sl:∀(i:Nat) (s:Sl),τ[i]? = some (some s)->∃v,σ[i]? = some .di/\Bx K Y9 F H s v
 dj:∀(i j:Nat) (ts us:List T) (p:Addr),i≠j->τ[i]? = some (.s ts)->τ[j]? = some (.s us)->σ[i]? = some (.U p)->σ[j]?≠some (.U p)
section
variable {K:.l}{Y0 Y9 F H F' H':Hp}{σ:L2.St}{τ:aE}
theorem Bx.grow (g:bj F H F' H')(h:Bx K Y9 F H s v):Bx K Y9 F' H' s v:=by
 cases s with
 |sh t=>exact Rep.mono g.sF h
 |own ts =>
  obtain⟨p,vs,h1,h2,W,N,D⟩:=h
  refine⟨p,vs,h1,g.sH _ _ h2,?_,N,aU.mono g.sF D⟩
  cases e:F' p with
  |none=>rfl
  |some o =>
   rcases g.nw p o e with q | q
   ·rw [q] at W;cases W
   ·rw [q] at h2;cases h2
theorem aJ.grow (E:.aC)(g:bj F H F' H'):aJ K Y0 Y9 F' H' σ τ:=by
 refine⟨E.g.trans g,E.len,fun i s e=>?_,E.dj⟩
 obtain⟨v,h1,h2⟩:=E.sl i s e
 exact⟨v,h1,h2.grow g⟩
theorem aJ.set {i:Nat}(E:.aC)(r:.fW):aJ K Y0 Y9 F H (σ.set i .di) (τ.set i (.z t)):=by
 refine⟨E.g,by simp [E.len],fun j s e=>?_,fun j k ts us p a e1 e2 e3=>?_⟩
 ·by_cases S:i=j
  ·subst S
   by_cases hl:i<τ.length
   ·rw [zam hl] at e
    cases e
    exact⟨v,zam .c5,r⟩
   ·rw [List.getElem?_eq_none .j] at e;cases e
  ·rw [zan S] at e
   rw [zan S]
   exact E.sl j s e
 ·have O:i≠j:=fun z=>by grind
  have V:i≠k:=fun z=>by grind
  rw [zan O] at e1 e3
  rw [zan V] at e2 ⊢
  exact E.dj j k ts us p a e1 e2 e3
theorem aJ.freeze {i:Nat}(E:.aC)(e:τ[i]? = some (.s ts)):
  ∃F' v,σ[i]? = some .di/\aJ K Y0 Y9 F' H σ (τ.set i (.z .dn))/\aW F F'/\Rep K F' .dn v:=by
 obtain⟨v,h1,p,vs,rfl,h2,W,N,D⟩:=E.sl i _ e
 have sF:aW F (upd F p .ev):=dC W
 have n:Rep K _ .dn (.c p):=⟨p,vs,rfl,aM,aU.mono sF D⟩
 refine⟨upd F p _,.ref p,h1,⟨⟨E.g.sF.trans sF,E.g.sH,fun b o q=>?_,fun b o q=>?_⟩,by simp [E.len],fun j s q=>?_,fun j k us ws r a e1 e2 e3=>?_⟩,sF,n⟩
 ·by_cases z:b=p
  ·subst z;rw [aM] at q;cases q;exact h2
  ·rw [ay z] at q;exact E.g.fh _ _ q
 ·by_cases z:b=p
  ·subst z;exact .inr N
  ·rw [ay z] at q;exact E.g.nw _ _ q
 ·by_cases S:i=j
  ·subst S
   have hl:i<τ.length:=by
    have:=(zav.mp e).1
    exact this
   rw [zam hl] at q
   cases q
   exact⟨_,h1,n⟩
  ·rw [zan S] at q
   obtain⟨v,g1,g2⟩:=E.sl j s q
   refine⟨v,g1,?_⟩
   cases s with
   |sh t=>exact Rep.mono sF g2
   |own us =>
    obtain⟨r,ws,rfl,k2,k3,L,k5⟩:=g2
    have d:r≠p:=fun z=>by
     subst z
     exact E.dj i j ts us r S e q h1 g1
    exact⟨r,ws,rfl,k2,by rw [ay d];exact k3,L,aU.mono sF k5⟩
 ·have hl:=(zav.mp e).1
  have O:i≠j:=fun z=>by subst z;rw [zam hl] at e1;cases e1
  have V:i≠k:=fun z=>by subst z;rw [zam hl] at e2;cases e2
  rw [zan O] at e1
  rw [zan V] at e2
  exact E.dj j k us ws r a e1 e2 e3
theorem aJ.setOwn {i:Nat}(E:.aC)(n:H p=none)(r:.gO):aJ K Y0 Y9 F (.aj p .ev) (σ.set i (.U p)) (τ.set i (.s ts)):=by
 have sH:aW H (.aj p .ev):=dC n
 have fp:=E.g.fh.free n
 have old:∀{j:Nat} {s:Sl},i≠j->τ[j]? = some (some s)->∃v,σ[j]? = some .di/\Bx K Y9 F (upd H p _) s v:=fun {j s} S q=>by
  obtain⟨v,g1,g2⟩:=E.sl j s q
  refine⟨v,g1,?_⟩
  cases s with
  |sh t=>exact g2
  |own us =>
   obtain⟨r,ws,rfl,k2,k3,L,k5⟩:=g2
   exact⟨r,ws,rfl,sH _ _ k2,k3,L,k5⟩
 refine⟨⟨E.g.sF,E.g.sH.trans sH,E.g.fh.trans sH,E.g.nw⟩,by simp [E.len],fun j s e=>?_,fun j k h us q a e1 e2 e3 e4=>?_⟩
 ·by_cases S:i=j
  ·subst S
   by_cases hl:i<τ.length
   ·rw [zam hl] at e
    cases e
    exact⟨.ref p,zam .c5,p,vs,rfl,aM,fp,E.g.sH.free n,r⟩
   ·rw [List.getElem?_eq_none .j] at e;cases e
  ·rw [zan S] at e
   rw [zan S]
   exact old S e
 ·by_cases S:i=j
  ·subst S
   have V:=a
   rw [zan V] at e2 e4
   by_cases hl:i<τ.length
   ·rw [zam .c5] at e3
    cases e3
    obtain⟨v,g1,B,ws,rfl,k2,_⟩:=E.sl k _ e2
    rw [g1] at e4;cases e4
    rw [n] at k2;cases k2
   ·rw [List.getElem?_eq_none .j] at e1;cases e1
  ·rw [zan S] at e1 e3
   by_cases hk:i=k
   ·subst hk
    by_cases hl:i<τ.length
    ·rw [zam .c5] at e4
     cases e4
     obtain⟨v,g1,B,ws,rfl,k2,_⟩:=E.sl j _ e1
     rw [g1] at e3;cases e3
     rw [n] at k2;cases k2
    ·rw [List.getElem?_eq_none .j] at e2;cases e2
   ·rw [zan hk] at e2 e4
    exact E.dj j k h us q a e1 e2 e3 e4
theorem aJ.turnOwn {i:Nat}(E:.aC)(e:τ[i]? = some (.s ts))(hp:σ[i]? = some (.U p))(r:aU K F us vs):
  aJ K Y0 Y9 F (.aj p .ev) σ (τ.set i (.s us)):=by
 obtain⟨v,h1,P,u,rfl,h2,W,N,D⟩:=E.sl i _ e
 rw [hp] at h1;cases h1
 have hl:=(zav.mp e).1
 refine⟨⟨E.g.sF,fun b o q=>?_,fun b o q=>?_,E.g.nw⟩,by simp [E.len],fun j s q=>?_,fun j k h g q a e1 e2 e3=>?_⟩
 ·rw [ay (fun z=>by subst z;rw [N] at q;cases q)];exact E.g.sH _ _ q
 ·rw [ay (fun z=>by subst z;rw [W] at q;cases q)];exact E.g.fh _ _ q
 ·by_cases S:i=j
  ·subst S
   rw [zam hl] at q;cases q
   exact⟨_,hp,p,vs,rfl,aM,W,N,r⟩
  ·rw [zan S] at q
   obtain⟨v,g1,g2⟩:=E.sl j s q
   refine⟨v,g1,?_⟩
   cases s with
   |sh t=>exact g2
   |own g =>
    obtain⟨B,ws,rfl,k2,k3,L,k5⟩:=g2
    have d:B≠p:=fun z=>by subst z;exact E.dj i j ts g B S e q hp g1
    exact⟨B,ws,rfl,by rw [ay d];exact k2,k3,L,k5⟩
 ·have q1:∃zs,τ[j]? = some (.s zs):=by grind
  have q2:∃zs,τ[k]? = some (.s zs):=by grind
  obtain⟨f,q1⟩:=q1
  obtain⟨R,q2⟩:=q2
  exact E.dj j k f R q a q1 q2 e3
end
abbrev FE:=aE->Option (T×aE)
abbrev FA:=aE->Option (List T×aE)
abbrev FT:=aE->Option (Bool×aE)
inductive R where
 |nx (τ:aE) | rt (t:T) | bk (τ:aE) | ct (τ:aE)
abbrev FS:=aE->Option R
abbrev FG:=T->aE->Option aE
section
variable (K:.l)(Y0 Y9:Hp)
noncomputable def tE (f:FE):TE:=fun σ H Q=>∃F τ t τ',aJ K Y0 Y9 F H σ τ/\f τ=some (t,τ')/\∀F' H' v,aJ K Y0 Y9 F' H' σ τ'->aW F F'->Rep K F' t v->Q v H'
noncomputable def tA (f:FA):TA:=fun σ H Q=>∃F τ ts τ',aJ K Y0 Y9 F H σ τ/\f τ=some .gS/\∀F' H' vs,aJ K Y0 Y9 F' H' σ τ'->aW F F'->aU K F' ts vs->Q vs H'
noncomputable def tT (f:FT):TT:=fun σ H Q=>∃F τ b τ',aJ K Y0 Y9 F H σ τ/\f τ=some (b,τ')/\∀F' H',aJ K Y0 Y9 F' H' σ τ'->aW F F'->Q b H'
noncomputable def pN (F:Hp)(D:Ends):R->Prop
 | .nx τ'=>∀F' H' σ',aJ K Y0 Y9 F' H' σ' τ'->aW F F'->D.nx σ' H'
 | .rt t=>∀F' H' v,bj Y0 Y9 F' H'->Rep K F' t v->D.rt v H'
 | .bk τ'=>∀F' H' σ',aJ K Y0 Y9 F' H' σ' τ'->aW F F'->D.bk σ' H'
 | .ct τ'=>∀F' H' σ',aJ K Y0 Y9 F' H' σ' τ'->aW F F'->D.ct σ' H'
def tS (f:FS):TS:=fun D σ H=>∃F τ r,aJ K Y0 Y9 F H σ τ/\f τ=some r/\pN K Y0 Y9 F D r
end
def SE (X:Cx)(e:Expr)(f:FE):Prop:=∀Y0 Y9,PE X e (tE X.K Y0 Y9 f)
def SA (X:Cx)(es:.av)(f:FA):Prop:=∀Y0 Y9,PA X es (tA X.K Y0 Y9 f)
def ST (X:Cx)(e:Expr)(f:FT):Prop:=∀Y0 Y9,PT X e (tT X.K Y0 Y9 f)
def SW (X:Cx)(e:Expr)(f:FT):Prop:=∀Y0 Y9,PW X e (tT X.K Y0 Y9 f)
def SS (X:Cx)(st:Stmt)(f:FS):Prop:=∀Y0 Y9,PS X st (tS X.K Y0 Y9 f)
def Bs (X:Cx)(st:.bB)(f:FS):Prop:=∀Y0 Y9,mY X st (tS X.K Y0 Y9 f)
section
variable {X:Cx}{e a b:Expr}{pos:Pos}{f fa fb:FE}
theorem PE.weak {t t':TE}(h:PE X e t)(i:∀σ H Q,t' σ H Q->t σ H Q):PE X e t':=.dX
theorem PT.weak {t t':TT}(h:PT X e t)(i:∀σ H Q,t' σ H Q->t σ H Q):PT X e t':=.dX
theorem PW.weak {t t':TT}(h:PW X e t)(i:∀σ H Q,t' σ H Q->t σ H Q):PW X e t':=fun d pins s σ H Q I q=>h d pins s σ H Q I (i σ H Q q)
theorem PA.weak {t t':TA}(h:PA X es t)(i:∀σ H Q,t' σ H Q->t σ H Q):PA X es t':=fun p pins s σ H Q I q=>h p pins s σ H Q I (i σ H Q q)
theorem PS.weak {st:Stmt}{t t':TS}(h:PS X st t)(i:∀D σ H,t' D σ H->t D σ H):PS X st t':=fun pins s σ H D I q=>h pins s σ H D I (i D σ H q)
theorem mY.weak {st:.bB}{t t':TS}(h:mY X st t)(i:∀D σ H,t' D σ H->t D σ H):mY X st t':=fun pins s σ H D I q=>h pins s σ H D I (i D σ H q)
def fC (t:T):FE:=fun τ=>some (t,τ)
noncomputable def ae (i:Nat):FE:=fun τ=>match τ[i]? with
 |some (.z t)=>some (t,τ)
 |some (.s ts)=>some (.lst ts,τ.set i (.z .dn))
 |_=>none
theorem gz (h:PE X e (tC v))(r:∀F,Rep X.K F t v):SE X e (fC t):=fun Y0 Y9=>PE.weak h fun σ H Q G=>by
 obtain⟨F,τ,t',τ',E,e1,q⟩:=G
 cases e1
 exact q F H v E .d9 (r F)
theorem ao {i:Int}{j}:SE X (.bf .eA) (fC .eA):=gz NF fun _=>rfl
theorem A4 {c:Bool}{j}:SE X (.bf (.bool c)) (fC (.bl c)):=gz Qn fun _=>rfl
theorem oy {j}:SE X (.Constant .none j pos) (fC .non):=gz NG fun _=>rfl
theorem bG {j}:SE X (.bf .fG) (fC .fG):=gz NK fun _=>rfl
theorem aa (i:Nat)(h:PE X .cI (vN i)):SE X .cI (ae i):=fun Y0 Y9=>PE.weak h fun σ H Q G=>by
 obtain⟨F,τ,t,τ',E,e1,q⟩:=G
 unfold ae at e1
 split at e1
 ·next t' e2 =>
  cases e1
  obtain⟨v,h1,h2⟩:=E.sl i _ e2
  exact⟨v,h1,q F H v E .d9 h2⟩
 ·next ts e2 =>
  cases e1
  obtain⟨F',v,h1,Z,sF,r⟩:=E.freeze e2
  exact⟨v,h1,q F' H v Z sF r⟩
 ·cases e1
theorem wW (M:Gl X x)(hm:X.mg x=none)(N:bootBuiltins x=some (.type n))(hn:x≠"__name__" := by decide)(hd:.M=false:=by decide):SE X .cI (fC (.ty n)):=
 gz (K4 (v:=.ty n) M hm N rfl hn hd) fun _=>rfl
noncomputable def NZ (K:.l)(g:.cS):R2:=fun x y H Q=>∃F a b t,aW F H/\Rep K F a x/\Rep K F b y/\g a b=some t/\∀F' H' v,bj F H F' H'->Rep K F' t v->Q v H'
noncomputable def Up (K:.l)(g:T->Option T):V->Hp->VK->Prop:=fun x H Q=>∃F a t,aW F H/\Rep K F a x/\g a=some t/\∀F' H' v,bj F H F' H'->Rep K F' t v->Q v H'
noncomputable def RH (K:.l)(g:.O):List V->Hp->VK->Prop:=fun xs H Q=>∃F ts t,aW F H/\aU K F ts xs/\g ts=some t/\∀F' H' v,bj F H F' H'->Rep K F' t v->Q v H'
abbrev lZ (X:Cx)(f:.d0)(g:.cS):Prop:=pP X f (NZ X.K g)
abbrev Tw (X:Cx)(f:Value->Sem Value)(g:T->Option T):Prop:=Q7 X f (Up X.K g)
abbrev gY (X:Cx)(f:Value)(g:.O):Prop:=gk X f (RH X.K g)
noncomputable def au (g:.cS)(fa fb:FE):FE:=fun τ=>(fa τ).bind fun p=>(fb p.2).bind fun q=>(g p.1 q.1).bind fun t=>some (t,q.2)
noncomputable def uV (g:T->Option T)(fa:FE):FE:=fun τ=>(fa τ).bind fun p=>(g p.1).bind fun t=>some (t,p.2)
theorem bind_some {α c:Type}{o:Option α}{f:α->Option c}{z:c}(h:o.bind f=some z):∃x,o=some x/\f x=some z:=by
 cases o with
 |none=>cases h
 |some x=>exact⟨x,rfl,h⟩
theorem rR {g:.cS}{Y0 Y9:Hp}{σ:L2.St}{H:Hp}{Q:VK}(h:tE X.K Y0 Y9 (au g fa fb) σ H Q):QU (NZ X.K g) (tE X.K Y0 Y9 fa) (tE X.K Y0 Y9 fb) σ H Q:=by
 obtain⟨F,τ,t,τ',E,e1,q⟩:=h
 obtain⟨⟨x,τ1⟩,e2,e1⟩:=bind_some e1
 obtain⟨⟨y,τ2⟩,e3,e1⟩:=bind_some e1
 obtain⟨z,e4,e1⟩:=bind_some e1
 cases e1
 refine⟨F,τ,x,τ1,E,e2,fun F1 H1 m V s1 r1=>⟨F1,τ1,y,_,V,e3,fun F2 H2 l R s2 r2=>?_⟩⟩
 exact⟨F2,x,y,t,R.g.fh,Rep.mono s2 r1,r2,e4,fun F3 P j r r3=>q F3 P j (R.grow r) ((s1.trans s2).trans r.sF) r3⟩
theorem aL (ho:lZ X (binaryOp op) g)(ha:.hf)(hb:SE X b fb):SE X (.BinOp a op b pos) (au g fa fb):=
 fun Y0 Y9=>PE.weak (Qp ho .cb .dE) fun _ _ _=>rR
theorem D8 {i:UnaryOp}{g:T->Option T}(ho:Tw X (unaryOp i) g)(ha:.hf):SE X (.UnaryOp i a pos) (uV g fa):=
 fun Y0 Y9=>PE.weak (Qq ho .cb) fun σ H Q G=>by
  obtain⟨F,τ,t,τ',E,e1,q⟩:=G
  obtain⟨⟨x,τ1⟩,e2,e1⟩:=bind_some e1
  obtain⟨z,e4,e1⟩:=bind_some e1
  cases e1
  exact⟨F,τ,x,_,E,e2,fun F1 H1 m V s1 r1=>⟨F1,x,t,V.g.fh,r1,e4,fun F3 P j r r3=>q F3 P j (V.grow r) (s1.trans r.sF) r3⟩⟩
theorem jS (ho:lZ X (.ae op) g)(ha:.hf)(hb:SE X b fb)(hm:behindInMarks op b=false):SE X (.Compare a [op] [b] pos) (au g fa fb):=
 fun Y0 Y9=>PE.weak (K5 ho .cb .dE hm) fun _ _ _=>rR
theorem aO (ho:Ov X (NZ X.K g))(ha:.hf)(hb:SE X b fb)(hs:C2 b):SE X (.ab a b) (au g fa fb):=
 fun Y0 Y9=>PE.weak (Qo ho .cb .dE hs) fun _ _ _=>rR
noncomputable def du (f:FE):FT:=fun τ=>(f τ).bind fun p=>match p.1 with | .bl c=>some (c,p.2) | _=>none
noncomputable def ON:T->Option Bool
 | .non=>some false
 | .bl c=>some c
 | .int i=>some (i != 0)
 | .str x=>if x.length≤sizeLine then some ((x.length:Int) != 0) else none
 | .tup ts=>some (!ts.isEmpty)
 | .lst ts=>some (!ts.isEmpty)
 | .scr ts=>some (!ts.isEmpty)
 | .dct _ _=>none
 | .obj _ _ _=>none
 | .ptr _=>none
 | .exc _ _ _=>none
 | .ty _=>none
def dB (f:FE):FT:=fun τ=>(f τ).bind fun p=>(ON p.1).bind fun c=>some (c,p.2)
theorem bA {i:CmpOp}{g:.cS}(ho:lZ X (.ae i) g)(ha:.hf)(hb:SE X b fb)(hm:behindInMarks i b=false):ST X .gK (du (au g fa fb)):=
 fun Y0 Y9=>PT.weak (Lf ho .cb .dE hm) fun σ H Q G=>by
  obtain⟨F,τ,c,τ',E,e1,q⟩:=G
  obtain⟨⟨x,τ1⟩,e2,e1⟩:=bind_some e1
  dsimp only at e1
  split at e1
  ·cases e1
   refine rR ⟨F,τ,_,_,E,e2,fun F' H' v Z s' B=>?_⟩
   exact⟨c,B,q F' H' Z s'⟩
  ·cases e1
theorem kG {K:.l}{F:Hp}{ts:List T}{vs:List V}(h:.gO):vs.isEmpty=ts.isEmpty:=by
 cases ts with
 |nil=>cases h;rfl
 |cons t ts=>obtain⟨v,r,rfl,_⟩:=h;rfl
theorem LK {K:.l}{F H:Hp}{t:T}{v:V}{c:Bool}(s:aW F H)(r:.fW)(e:ON t=some c):Mx K v H c:=by
 cases t with
 |non=>cases r;cases e;exact rfl
 |bl _=>cases r;cases e;exact rfl
 |int _=>cases r;cases e;exact rfl
 |str x =>
  cases r
  simp only [ON] at e
  split at e
  ·next h=>cases e;exact⟨h,rfl⟩
  ·cases e
 |ty _=>cases e
 |tup ts =>
  obtain⟨p,xs,rfl,h1,h2⟩:=r
  cases e
  exact .bg (.inl ⟨xs,cw s h1,by rw [kG h2]⟩)
 |lst ts =>
  obtain⟨p,xs,rfl,h1,h2⟩:=r
  cases e
  exact .inl ⟨xs,gE.of (s _ _ h1),by rw [kG h2]⟩
 |scr ts =>
  obtain⟨p,xs,rfl,h1,h2⟩:=r
  cases e
  exact .inl ⟨xs,s.seq h1,by rw [kG h2]⟩
 |dct _ _=>cases e
 |obj _ _ _=>cases e
 |ptr _=>cases e
 |exc _ _ _=>cases e
theorem di (h:.gF)(he:∀whole,isTrue e X.env whole=(do let v <- whole;standAt e.pos;holding [v] (truthy v)):=by intro _;rfl):ST X e (dB f):=
 fun Y0 Y9=>PT.weak (IT .c8 he) fun σ H Q G=>by
  obtain⟨F,τ,c,τ',E,e1,q⟩:=G
  obtain⟨⟨x,τ1⟩,e2,e1⟩:=bind_some e1
  obtain⟨z,e4,e1⟩:=bind_some e1
  cases e1
  exact⟨F,τ,x,_,E,e2,fun F1 H1 m V s1 r1=>⟨c,LK V.g.fh r1 e4,q F1 H1 V s1⟩⟩
variable {ta tb:FT}{rest:.av}
noncomputable def kE (ta tb:FT):FT:=fun τ=>(ta τ).bind fun p=>if p.1=true then tb p.2 else some (false,p.2)
noncomputable def Dl (ta tb:FT):FT:=fun τ=>(ta τ).bind fun p=>if p.1=true then some (true,p.2) else tb p.2
def ny (ta:FT):FT:=fun τ=>(ta τ).bind fun p=>some (!p.1,p.2)
theorem jU (h:ST X a ta):ST X (.UnaryOp .Not a pos) (ny ta):=fun Y0 Y9=>PT.weak (NW .c8) fun σ H Q G=>by
 obtain⟨F,τ,c,τ',E,e1,q⟩:=G
 obtain⟨⟨x,τ1⟩,e2,e1⟩:=bind_some e1
 cases e1
 exact⟨F,τ,x,_,E,e2,fun F1 H1 V s1=>q F1 H1 V s1⟩
theorem jz (h:ST X a ta):SW X (.BoolOp .And [a] pos) ta:=fun Y0 Y9=>Lg .c8
theorem oB (h:ST X a ta):SW X (.BoolOp .Or [a] pos) ta:=fun Y0 Y9=>NY .c8
theorem mV (ha:ST X a ta)(hb:SW X .fI tb):SW X .eV (kE ta tb):=fun Y0 Y9=>PW.weak (NX .cb .dE) fun σ H Q G=>by
 obtain⟨F,τ,c,τ',E,e1,q⟩:=G
 obtain⟨⟨x,τ1⟩,e2,e1⟩:=bind_some e1
 refine⟨F,τ,x,τ1,E,e2,fun F1 H1 V s1=>?_⟩
 split at e1
 ·next h=>rw [if_pos h];exact⟨F1,τ1,c,τ',V,e1,fun F2 H2 R s2=>q F2 H2 R .a8⟩
 ·next h=>rw [if_neg h];cases e1;exact q F1 H1 V s1
theorem pH (ha:ST X a ta)(hb:SW X (.BoolOp .Or (b::rest) pos) tb):SW X (.BoolOp .Or (a::b::rest) pos) (Dl ta tb):=fun Y0 Y9=>PW.weak (Qt .cb .dE) fun σ H Q G=>by
 obtain⟨F,τ,c,τ',E,e1,q⟩:=G
 obtain⟨⟨x,τ1⟩,e2,e1⟩:=bind_some e1
 refine⟨F,τ,x,τ1,E,e2,fun F1 H1 V s1=>?_⟩
 split at e1
 ·next h=>rw [if_pos h];cases e1;exact q F1 H1 V s1
 ·next h=>rw [if_neg h];exact⟨F1,τ1,c,τ',V,e1,fun F2 H2 R s2=>q F2 H2 R .a8⟩
theorem SW.st (h:SW X e ta):ST X e ta:=fun Y0 Y9=>(h Y0 Y9).pt
noncomputable def hU (fa fb:FE):FE:=fun τ=>(fa τ).bind fun p=>match p.1 with | .bl true=>fb p.2 | .bl false=>some (.bl false,p.2) | _=>none
noncomputable def Sf (fa fb:FE):FE:=fun τ=>(fa τ).bind fun p=>match p.1 with | .bl true=>some (.bl true,p.2) | .bl false=>fb p.2 | _=>none
def Ka:T->Option T
 | .bl c=>some (.bl (!c))
 |_=>none
theorem qo {op}(h:.hf):SE X (.BoolOp op [a] pos) fa:=fun Y0 Y9=>NI .c8
theorem ly (ha:.hf)(hb:SE X .fI fb):SE X .eV (hU fa fb):=fun Y0 Y9=>PE.weak (NB .cb .dE) fun σ H Q G=>by
 obtain⟨F,τ,c,τ',E,e1,q⟩:=G
 obtain⟨⟨x,τ1⟩,e2,e1⟩:=bind_some e1
 dsimp only at e1
 refine⟨F,τ,x,τ1,E,e2,fun F1 H1 v V s1 r1=>?_⟩
 split at e1
 ·cases r1;exact⟨true,rfl,by rw [if_pos rfl];exact⟨F1,τ1,c,τ',V,e1,fun F2 H2 l R s2=>q F2 H2 l R .a8⟩⟩
 ·cases r1;cases e1;exact⟨false,rfl,by rw [if_neg .f];exact q F1 H1 _ V s1 rfl⟩
 ·cases e1
theorem N3 (ha:.hf):SE X (.UnaryOp .Not a pos) (uV Ka fa):=fun Y0 Y9=>PE.weak (NH .cb) fun σ H Q G=>by
 obtain⟨F,τ,c,τ',E,e1,q⟩:=G
 obtain⟨⟨x,τ1⟩,e2,e1⟩:=bind_some e1
 obtain⟨z,e4,e1⟩:=bind_some e1
 cases e1
 refine⟨F,τ,x,_,E,e2,fun F1 H1 v V s1 r1=>?_⟩
 dsimp only at e4
 unfold Ka at e4
 split at e4
 ·cases r1;cases e4;exact⟨_,rfl,q F1 H1 _ V s1 rfl⟩
 ·cases e4
noncomputable def zP (t:FT)(fa fb:FE):FE:=fun τ=>(t τ).bind fun p=>if p.1=true then fa p.2 else fb p.2
theorem wV {c:Expr}(U:ST X c ta)(ha:.hf)(hb:SE X b fb):SE X (.IfExp c a b pos) (zP ta fa fb):=fun Y0 Y9=>PE.weak (ID (U Y0 Y9) .cb .dE) fun σ H Q G=>by
 obtain⟨F,τ,c,τ',E,e1,q⟩:=G
 obtain⟨⟨x,τ1⟩,e2,e1⟩:=bind_some e1
 refine⟨F,τ,x,τ1,E,e2,fun F1 H1 V s1=>?_⟩
 split at e1
 ·next h=>rw [if_pos h];exact⟨F1,τ1,c,τ',V,e1,fun F2 H2 l R s2=>q F2 H2 l R .a8⟩
 ·next h=>rw [if_neg h];exact⟨F1,τ1,c,τ',V,e1,fun F2 H2 l R s2=>q F2 H2 l R .a8⟩
variable {es:.av}{g:FA}
def ar:FA:=fun τ=>some ([],τ)
noncomputable def ag (f:FE)(g:FA):FA:=fun τ=>(f τ).bind fun p=>(g p.2).bind fun q=>some (p.1::q.1,q.2)
theorem aj:SA X [] ar:=fun Y0 Y9=>PA.weak qg fun σ H Q G=>by
 obtain⟨F,τ,c,τ',E,e1,q⟩:=G
 cases e1
 exact q F H [] E .d9 rfl
theorem af (ha:.gF)(hr:SA X es g)(hs:starEach (e::es) X.env=(.m e)::starEach es X.env:=by rfl):SA X (e::es) (ag f g):=fun Y0 Y9=>PA.weak (jw .cb (hr Y0 Y9) hs) fun σ H Q G=>by
 obtain⟨F,τ,c,τ',E,e1,q⟩:=G
 obtain⟨⟨x,τ1⟩,e2,e1⟩:=bind_some e1
 obtain⟨⟨y,τ2⟩,e3,e1⟩:=bind_some e1
 cases e1
 exact⟨F,τ,x,τ1,E,e2,fun F1 H1 v V s1 r1=>⟨F1,τ1,y,_,V,e3,fun F2 H2 vs R s2 r2=>q F2 H2 _ R .a8 ⟨v,vs,rfl,Rep.mono s2 r1,r2⟩⟩⟩
noncomputable def eh (g:FA):FE:=fun τ=>(g τ).bind fun p=>if p.1.length≤sizeLine then some (.tup p.1,p.2) else none
noncomputable def eT (g:FA):FE:=fun τ=>(g τ).bind fun p=>if p.1.length≤sizeLine then some (.lst p.1,p.2) else none
theorem eE {k}(h:SA X es g):SE X .f3 (eh g):=fun Y0 Y9=>PE.weak (NL .c8) fun σ H Q G=>by
 obtain⟨F,τ,c,τ',E,e1,q⟩:=G
 obtain⟨⟨x,τ1⟩,e2,e1⟩:=bind_some e1
 split at e1
 ·next hl =>
  cases e1
  refine⟨F,τ,x,_,E,e2,fun F1 H1 vs V s1 r1=>⟨by rw [r1.length];exact hl,fun p hp=>?_⟩⟩
  have A:=bj.new (.tup vs) V.g.fh hp
  exact q _ _ _ (V.grow A) .gT ⟨p,vs,rfl,nv.of aM,aU.mono A.sF r1⟩
 ·cases e1
theorem gd (h:SA X es g):SE X (.List es pos) (eT g):=fun Y0 Y9=>PE.weak (IE .c8) fun σ H Q G=>by
 obtain⟨F,τ,c,τ',E,e1,q⟩:=G
 obtain⟨⟨x,τ1⟩,e2,e1⟩:=bind_some e1
 split at e1
 ·next hl =>
  cases e1
  refine⟨F,τ,x,_,E,e2,fun F1 H1 vs V s1 r1=>⟨by rw [r1.length];exact hl,fun p hp=>?_⟩⟩
  have A:=bj.new .ev V.g.fh hp
  exact q _ _ _ (V.grow A) .gT ⟨p,vs,rfl,aM,aU.mono A.sF r1⟩
 ·cases e1
def ak (d:.O)(g:FA):FE:=fun τ=>(g τ).bind fun p=>(d p.1).bind fun t=>some (t,p.2)
theorem vZ {d:.O}{Y0 Y9:Hp}{σ:L2.St}{H:Hp}{Q:VK}(h:tE X.K Y0 Y9 (ak d g) σ H Q):tA X.K Y0 Y9 g σ H fun vs H1=>RH X.K d vs H1 Q:=by
 obtain⟨F,τ,c,τ',E,e1,q⟩:=h
 obtain⟨⟨x,τ1⟩,e2,e1⟩:=bind_some e1
 obtain⟨z,e4,e1⟩:=bind_some e1
 cases e1
 exact⟨F,τ,x,_,E,e2,fun F1 H1 vs V s1 r1=>⟨F1,x,c,V.g.fh,r1,e4,fun F3 P j r r3=>q F3 P j (V.grow r) (s1.trans r.sF) r3⟩⟩
theorem aY {d:.O}{id:String}{x:Str}{p:Pos}(U:gY X .dU d)(M:Gl X x)(hm:X.mg x=none)(N:bootBuiltins x=some .dU)(ha:SA X (e::es) g)(hn:x≠"__name__" := by decide)(v:.M=false:=by decide)
  (he:starEach (e::es) X.env=(.m e)::starEach es X.env:=by rfl) (l:(backTo pos .br).any (·.1)=false:=by rfl):SE X .aP (ak d g):=
 fun Y0 Y9=>PE.weak (AQ U M hm N .cb hn v he l) fun _ _ _=>vZ
theorem bU {d:.O}{id:String}{x:Str}{p:Pos}(U:gY X (.type id) d)(M:Gl X x)(hm:X.mg x=none)(N:bootBuiltins x=some (.type id))(ha:SA X (e::es) g)(hn:x≠"__name__" := by decide)(v:.M=false:=by decide)
  (he:starEach (e::es) X.env=(.m e)::starEach es X.env:=by rfl) (l:(backTo pos .br).any (·.1)=false:=by rfl):SE X .aP (ak d g):=
 fun Y0 Y9=>PE.weak (FH U M hm N .cb hn v he l) fun _ _ _=>vZ
end
def spT (K:.l)(n:Nat)(d:.O):Sp:=fun vs H Q _=>vs.length=n/\RH K d vs H Q
structure Def (P:.ah)(w:World)(K:.l)(mg:.H)(base:Heap)(k:Nat)(x:Str)(n:Nat)(d:.O):Prop where
 ex:∃f fd ps,iS P w K mg base uP k f fd ps (spT K n d)/\Binds K fd ps []/\PySem.W.keepIn K (.c f)=true/\mg x=some (.c f)/\ps.length=n
theorem Def.imp {P:.ah}{w:World}{K:.l}{mg:.H}{base:Heap}{k n:Nat}{x:Str}{d d':.O}(D:Def P w K mg base k x n d)(h:∀ts t,d' ts=some t->d ts=some t):Def P w K mg base k x n d':=by
 obtain⟨f,fd,ps,F,r⟩:=D.ex
 exact⟨f,fd,ps,F.imp fun vs H Q E ⟨l,F,ts,t,a,b,c,q⟩=>⟨l,F,ts,t,a,b,h _ _ c,q⟩,r⟩
theorem Def.mono {P:.ah}{w:World}{K:.l}{mg:.H}{base:Heap}{j k n:Nat}{x:Str}{d:.O}(D:Def P w K mg base j x n d)(h:j≤k):Def P w K mg base k x n d:=by
 obtain⟨f,fd,ps,F,r⟩:=D.ex
 exact⟨f,fd,ps,F.mono h,r⟩
theorem Def.zero {P:.ah}{w:World}{K:.l}{mg:.H}{base:Heap}{x qual:Str}{st:Stmt}{f:Addr}{fd:.eX}{ps:.V}(F:.dt)(hb:Binds K fd ps [])(hm:mg x=some (.c f)):Def P w K mg base 0 x ps.length (fun _=>none):=
 ⟨f,fd,ps,⟨fun vs H Q E h=>h.1,fun A outer s H args us vs Q E _ _ _ _ h=>by obtain⟨_,F,ts,t,_,_,e,_⟩:=h;cases e⟩,hb,F.kp,hm,rfl⟩
section
variable {X:Cx}{e:Expr}{es:.av}{pos:Pos}{g:FA}
theorem aG {k n:Nat}{x:Str}{p:Pos}{d:.O}(D:Def X.prog X.w X.K X.mg X.base k x n d)(hr:ff k X.A)(M:Gl X x)(ha:SA X (e::es) g)(hl:∀τ ts τ',g τ=some .gS->ts.length=n)(v:.M=false:=by decide)
  (he:starEach (e::es) X.env=(.m e)::starEach es X.env:=by rfl) (l:(backTo pos .br).any (·.1)=false:=by rfl):SE X .aP (ak d g):=by
 obtain⟨f,fd,ps,F,hb,hk,hm,hn⟩:=D.ex
 intro Y0 Y9
 refine PE.weak (DV F hr M hm hk hb .nil AO .cb v he l) fun σ H Q h=>?_
 obtain⟨F,τ,c,τ',E,e1,q⟩:=h
 obtain⟨⟨z,τ1⟩,e2,e1⟩:=bind_some e1
 obtain⟨u,e4,e1⟩:=bind_some e1
 cases e1
 refine⟨F,τ,z,_,E,e2,fun F1 H1 vs V s1 r1=>⟨by rw [zaA,r1.length];exact (hl _ _ _ e2),F1,z,c,V.g.fh,by rw [zaA];exact r1,e4,fun F3 P j r r3=>q F3 P j (V.grow r) (s1.trans r.sF) r3⟩⟩
theorem az:∀τ ts τ',ar τ=some .gS->ts.length=0:=fun _ _ _ h=>by cases h;rfl
theorem ah {f:FE}{g:FA}{n:Nat}(h:∀τ ts τ',g τ=some .gS->ts.length=n):∀τ ts τ',ag f g τ=some .gS->ts.length=n+1:=fun τ ts τ' e=>by
 obtain⟨⟨x,τ1⟩,e2,e1⟩:=bind_some e
 obtain⟨⟨y,τ2⟩,e3,e1⟩:=bind_some e1
 cases e1
 simp [h _ _ _ e3]
end
section
variable {X:Cx}{e a b:Expr}{pos:Pos}{f fa fb:FE}{ga:FA}{es:.av}
def fB:FS:=fun _=>none
def bY:FS:=fun τ=>some (.nx τ)
def bx (f:FE):FS:=fun τ=>(f τ).bind fun p=>some (.rt p.1)
def sS (f:FE):FS:=fun τ=>(f τ).bind fun p=>some (.nx p.2)
def dA (c:FT)(t u:FS):FS:=fun τ=>(c τ).bind fun p=>if p.1=true then t p.2 else u p.2
def aH (t u:FS):FS:=fun τ=>(t τ).bind fun r=>match r with | .nx τ'=>u τ' | r=>some r
theorem pN.mono {K:.l}{Y0 Y9 F F':Hp}{D:Ends}{r:R}(s:aW F F')(h:pN K Y0 Y9 F D r):pN K Y0 Y9 F' D r:=by
 cases r with
 |nx τ=>exact fun F1 H1 l V s1=>h F1 H1 l V (s.trans s1)
 |rt t=>exact h
 |bk τ=>exact fun F1 H1 l V s1=>h F1 H1 l V (s.trans s1)
 |ct τ=>exact fun F1 H1 l V s1=>h F1 H1 l V (s.trans s1)
theorem eZ {st:Stmt}:SS X st fB:=fun Y0 Y9=>PS.weak IM fun D σ H ⟨F,τ,r,E,e1,q⟩=>by cases e1
theorem aV (h:.gF):SS X (.Return (some e) pos) (bx f):=fun Y0 Y9=>PS.weak (IP .c8) fun D σ H G=>by
 obtain⟨F,τ,r,E,e1,q⟩:=G
 obtain⟨⟨x,τ1⟩,e2,e1⟩:=bind_some e1
 cases e1
 exact⟨F,τ,x,τ1,E,e2,fun F' H' v Z s' B=>q F' H' v Z.g B⟩
theorem zc (h:.gF)(hs:swapsWith e none pos.line X.env=pure false:=by rfl):SS X (.Expr e pos) (sS f):=fun Y0 Y9=>PS.weak (yN .c8 hs) fun D σ H G=>by
 obtain⟨F,τ,r,E,e1,q⟩:=G
 obtain⟨⟨x,τ1⟩,e2,e1⟩:=bind_some e1
 cases e1
 exact⟨F,τ,x,τ1,E,e2,fun F' H' v Z s' B=>q F' H' σ Z s'⟩
theorem dQ (U:ST X c tc)(ha:Bs X ss t)(hb:Bs X us u):SS X (.If c ss us pos) (dA tc t u):=fun Y0 Y9=>PS.weak (IL (U Y0 Y9) .cb .dE) fun D σ H G=>by
 obtain⟨F,τ,r,E,e1,q⟩:=G
 obtain⟨⟨x,τ1⟩,e2,e1⟩:=bind_some e1
 refine⟨F,τ,x,τ1,E,e2,fun F' H' Z s'=>?_⟩
 split at e1
 ·next h=>rw [if_pos h];exact⟨F',τ1,r,Z,e1,q.mono s'⟩
 ·next h=>rw [if_neg h];exact⟨F',τ1,r,Z,e1,q.mono s'⟩
theorem bO:Bs X [] bY:=fun Y0 Y9=>mY.weak rS fun D σ H G=>by
 obtain⟨F,τ,r,E,e1,q⟩:=G
 cases e1
 exact q F H σ E .d9
theorem aq {st:Stmt}{rest:.bB}{t u:FS}(h1:SS X st t)(h2:Bs X rest u):Bs X (st::rest) (aH t u):=fun Y0 Y9=>mY.weak (jb (h1 Y0 Y9) (h2 Y0 Y9)) fun D σ H G=>by
 obtain⟨F,τ,r,E,e1,q⟩:=G
 obtain⟨x,e2,e1⟩:=bind_some e1
 refine⟨F,τ,x,E,e2,?_⟩
 cases x with
 |nx τ1=>exact fun F1 H1 l V s1=>⟨F1,τ1,r,V,e1,q.mono s1⟩
 |rt t=>cases e1;exact q
 |bk t=>cases e1;exact q
 |ct t=>cases e1;exact q
theorem aw {st:Stmt}{t:FS}(h1:SS X st t):Bs X [st] t:=fun Y0 Y9=>yO (h1 Y0 Y9)
def bF (i:Nat)(f:FE):FS:=fun τ=>(f τ).bind fun p=>some (.nx (p.2.set i ('0' p.1)))
noncomputable def bK (i:Nat)(g:FA):FS:=fun τ=>(g τ).bind fun p=>if p.1.length≤sizeLine then some (.nx (p.2.set i (some (.own p.1)))) else none
theorem bu (i:Nat)(J:.fC)(hi:X.N[i]? = some x)(hx:.e2)(he:.gF)(hs:swapsWith e (.Z x pos') pos.line X.env=pure false:=by rfl)
  (hf:X.fn x=true\/X.env.scope.names.lookup x=some .local:=by first | exact .inl rfl | exact .inr rfl | assumption):SS X (.Assign [.Name x pos'] e pos) (bF i f):=fun Y0 Y9=>PS.weak (Cz J hi hx .eR hs hf) fun D σ H G=>by
 obtain⟨F,τ,r,E,e1,q⟩:=G
 obtain⟨⟨y,τ1⟩,e2,e1⟩:=bind_some e1
 cases e1
 exact⟨F,τ,y,τ1,E,e2,fun F' H' v Z s' B=>q F' H' _ (Z.set B) s'⟩
theorem ee (i:Nat)(J:.fC)(hi:X.N[i]? = some x)(hx:.e2)(he:SA X es ga)(hs:swapsWith (.List es p2) (.Z x pos') pos.line X.env=pure false:=by rfl)
  (hf:X.fn x=true\/X.env.scope.names.lookup x=some .local:=by first | exact .inl rfl | exact .inr rfl | assumption):SS X (.Assign [.Name x pos'] (.List es p2) pos) (bK i ga):=fun Y0 Y9=>PS.weak (Cz J hi hx (IE .eR) hs hf) fun D σ H G=>by
 obtain⟨F,τ,r,E,e1,q⟩:=G
 obtain⟨⟨y,τ1⟩,e2,e1⟩:=bind_some e1
 split at e1
 ·next hl =>
  cases e1
  exact⟨F,τ,y,τ1,E,e2,fun F' H' vs Z s' B=>⟨by rw [B.length];exact hl,fun p hp=>q F' _ _ (Z.setOwn hp B) s'⟩⟩
 ·cases e1
noncomputable def tG (K:.l)(Y0 Y9:Hp)(fg:FG):TG:=fun v σ H Q=>∃F τ t τ',aJ K Y0 Y9 F H σ τ/\Rep K F t v/\fg t τ=some τ'/\∀F' H' σ',aJ K Y0 Y9 F' H' σ' τ'->aW F F'->Q σ' H'
noncomputable def Uu (K:.l)(Y0 Y9:Hp)(fg:.bH):JC:=fun vs σ H Q=>∃F τ ts τ',aJ K Y0 Y9 F H σ τ/\aU K F ts vs/\fg ts τ=some τ'/\∀F' H' σ',aJ K Y0 Y9 F' H' σ' τ'->aW F F'->Q σ' H'
def SG (X:Cx)(tg:Expr)(fg:FG):Prop:=∀Y0 Y9,PG X tg (tG X.K Y0 Y9 fg)
def Mv (X:Cx)(tg:.av)(fg:.bH):Prop:=∀Y0 Y9,Ox X tg (Uu X.K Y0 Y9 fg)
def ai (i:Nat):FG:=fun t τ=>some (τ.set i (.z t))
def bL:List T->aE->Option aE
 |[],τ=>some τ
 |_::_,_=>none
noncomputable def aA (g:FG)(gs:.bH):List T->aE->Option aE
 |[],_=>none
 |t::ts,τ=>(g t τ).bind fun τ1=>gs ts τ1
def bS (gs:.bH):FG:=fun t τ=>match t with
 | .tup ts=>gs ts τ
 |_=>none
theorem aD (i:Nat)(J:.fC)(hi:X.N[i]? = some x)(hx:.e2)(hf:X.fn x=true\/X.env.scope.names.lookup x=some .local:=by first | exact .inl rfl | exact .inr rfl | assumption):SG X .cI (ai i):=
 fun Y0 Y9 pins s σ H v u Q I r h=>La J hi hx hf pins s σ H v u Q I r (by
  obtain⟨F,τ,t,τ',E,rt,e1,q⟩:=h
  cases e1
  exact q F H _ (E.set rt) .d9)
theorem cY:Mv X [] bL:=fun Y0 Y9 pins s σ H vs us Q I r h=>Lb pins s σ H vs us Q I r (by
 obtain⟨F,τ,ts,τ',E,rt,e1,q⟩:=h
 cases ts with
 |nil=>cases e1;cases rt;exact⟨rfl,q F H σ E .d9⟩
 | cons t ts=>cases e1)
theorem aZ (h1:SG X e g)(h2:Mv X es gs)(hs:(assignEach (e::es) X.env).map (·.2)=assign e X.env::(assignEach es X.env).map (·.2):=by rfl):Mv X (e::es) (aA g gs):=
 fun Y0 Y9 pins s σ H vs us Q I r h=>IH (h1 Y0 Y9) (h2 Y0 Y9) hs pins s σ H vs us Q I r (by
  obtain⟨F,τ,ts,τ',E,rt,e1,q⟩:=h
  cases ts with
  |nil=>cases e1
  |cons t ts =>
   obtain⟨v,w,rfl,r1,r2⟩:=rt
   obtain⟨τ1,e2,e1⟩:=bind_some e1
   exact⟨v,w,rfl,F,τ,t,τ1,E,r1,e2,fun F' H' σ' Z s'=>⟨F',τ1,ts,τ',Z,aU.mono s' r2,e1,fun F2 H2 n R s2=>q F2 H2 n R (s'.trans s2)⟩⟩)
theorem eC:∀ts τ τ',bL ts τ=some τ'->ts.length=0:=fun ts τ τ' h=>by cases ts<;>first | rfl | cases h
theorem bh {gs:.bH}{n:Nat}(h:∀ts τ τ',gs ts τ=some τ'->ts.length=n):∀ts τ τ',aA g gs ts τ=some τ'->ts.length=n+1:=fun ts τ τ' e=>by
 cases ts with
 |nil=>cases e
 |cons t ts =>
  obtain⟨τ1,e2,e1⟩:=bind_some e
  simp [h _ _ _ e1]
theorem eS {k:Nat}{n:Nat}(U:.bt)(h:Mv X es gs)(hl:∀ts τ τ',gs ts τ=some τ'->ts.length=n)
  (hn:(assignEach es X.env).length=n:=by rfl) (J:(assignEach es X.env).findIdx? (·.1)=none:=by rfl):SG X .f3 (bS gs):=
 fun Y0 Y9 pins s σ H v u Q I r h'=>NO U .c8 hn J pins s σ H v u Q I r (by
  obtain⟨F,τ,t,τ',E,rt,e1,q⟩:=h'
  unfold bS at e1
  split at e1
  ·next ts =>
   obtain⟨p,xs,rfl,h1,h2⟩:=rt
   exact⟨p,xs,rfl,cw E.g.fh h1,by rw [h2.length];exact hl _ _ _ e1,F,τ,ts,τ',E,h2,e1,q⟩
  ·cases e1)
noncomputable def kh (f:FE)(g:FG):FS:=fun τ=>(f τ).bind fun p=>(g p.1 p.2).bind fun τ'=>some (.nx τ')
theorem oz (he:.gF)(M:SG X tg g)(hs:swapsWithSole [tg] e pos.line X.env=pure false:=by rfl)(L:swappedStores [tg] e X.env=pure none:=by rfl)
  (h1:(assignEach [tg] X.env).map (·.2)=[assign tg X.env]:=by rfl):SS X (.Assign [tg] e pos) (kh f g):=fun Y0 Y9=>PS.weak (NS .eR (M Y0 Y9) hs L h1) fun D σ H G=>by
 obtain⟨F,τ,r,E,e1,q⟩:=G
 obtain⟨⟨y,τ1⟩,e2,e1⟩:=bind_some e1
 obtain⟨τ2,e3,e1⟩:=bind_some e1
 cases e1
 exact⟨F,τ,y,τ1,E,e2,fun F' H' v Z s' B=>⟨F',τ1,y,τ2,Z,B,e3,fun F2 H2 n R s2=>q F2 H2 n R (s'.trans s2)⟩⟩
noncomputable def uU (i j:Nat)(g:FA):FS:=fun τ=>(g τ).bind fun p=>match p.1 with
 |[v,w]=>some (.nx ((p.2.set i (.z v)).set j (.z w)))
 |_=>none
theorem uw {i j:Nat}{kt k2 k}(U:.bt)(J:.fC)(hi:X.N[i]? = some x)(S:X.N[j]? = some y)(l:i≠j)
  (hx:X.env.scope.names.lookup x=some .local) (R:.bR) (ha:SA X [a,b] ga)
  (L:swappedStores .fX .fg X.env=pure (some [x,y]))
  (hs:swapsWithSole .fX .fg pos.line X.env=pure false:=by rfl):
  SS X (.Assign .fX .fg pos) (uU i j ga):=fun Y0 Y9=>PS.weak (NU U J hi S l hx R .cb L hs) fun D σ H G=>by
 obtain⟨F,τ,r,E,e1,q⟩:=G
 obtain⟨⟨ts,τ1⟩,e2,e1⟩:=bind_some e1
 dsimp only at e1
 split at e1
 ·cases e1
  refine⟨F,τ,_,τ1,E,e2,fun F' H' vs Z s' B=>?_⟩
  obtain⟨v1,r1,rfl,q1,v2,r2,rfl,q2,rfl⟩:=B
  exact⟨v1,v2,rfl,q F' H' _ ((Z.set q1).set q2) s'⟩
 ·cases e1
structure Walks (K:.l)(F:Hp)(ts:List T)(J:It):Prop where
 go:∀(i:Nat) t F1 H1,ts[i]? = some t->aW F F1->aW F1 H1->J.go i H1
 yld:∀(i:Nat) t F1 H1 x H2,ts[i]? = some t->aW F F1->aW F1 H1->J.yld i H1 x H2->∃F2,bj F1 H1 F2 H2/\Rep K F2 t x
 stop:∀F1 H1,aW F F1->aW F1 H1->J.stop ts.length H1
noncomputable def tI (K:.l)(Y0 Y9:Hp)(fi:FA):TI:=fun σ H R=>∃F τ ts τ',aJ K Y0 Y9 F H σ τ/\fi τ=some .gS/\∀F' H' J,aJ K Y0 Y9 F' H' σ τ'->aW F F'->Walks K F' ts J->R J H'
def SI (X:Cx)(tg iter:Expr)(fi:FA):Prop:=∀Y0 Y9,PI X tg iter (tI X.K Y0 Y9 fi)
noncomputable def cN (fg:FG)(fb:FS):List T->FS
 |[],τ=>some (.nx τ)
 |t::ts,τ=>(fg t τ).bind fun τ1=>(fb τ1).bind fun r=>match r with
  | .nx τ2=>cN fg fb ts τ2
  | .ct τ2=>cN fg fb ts τ2
  | .bk τ2=>some (.nx τ2)
  | .rt v=>some (.rt v)
def fW (fi:FA)(fg:FG)(fb:FS):FS:=fun τ=>(fi τ).bind fun p=>cN fg fb p.1 p.2
theorem fJ {tg iter:Expr}{body:.bB}{fi:FA}{fg:FG}{fb:FS}(hp:.ee)(U:.bt)(hi:.db)(M:SG X tg fg)(hb:Bs X body fb)
  (hs:∀x,foldedSetIterable iter X.env x=pure x:=by intro _;rfl):SS X (.For tg iter body [] pos) (fW fi fg fb):=fun Y0 Y9=>PS.weak (IK hp U (hi Y0 Y9) (M Y0 Y9) .dE hs) fun D σ H G=>by
 obtain⟨F,τ,r,E,e1,q⟩:=G
 obtain⟨⟨ts,τ1⟩,e2,e1⟩:=bind_some e1
 refine⟨F,τ,ts,τ1,E,e2,fun F' H' J Z s' W=>?_⟩
 refine⟨fun i m σ H=>m=ts.length-i/\i≤ts.length/\∃F1 τ1,aJ X.K Y0 Y9 F1 H σ τ1/\aW F' F1/\cN fg fb (ts.drop i) τ1=some r,⟨_,rfl,za4 _,F',τ1,Z,aW.refl _,e1⟩,?_⟩
 rintro i m l H1 ⟨rfl,hi,F1,τ2,V,s1,e3⟩
 by_cases O:i<ts.length
 ·have hd:=zbn O
  have M:=zas O
  rw [hd] at e3
  obtain⟨u,e4,e3⟩:=bind_some e3
  obtain⟨B,e5,e3⟩:=bind_some e3
  refine .bg ⟨W.go i _ F1 H1 M s1 V.g.fh,fun σ H=>∃F1 τ1,aJ X.K Y0 Y9 F1 H σ τ1/\aW F' F1/\cN fg fb _ τ1=some r,fun σ' H' n=>⟨_,.e,rfl,O,n⟩,fun x H2 y=>?_⟩
  obtain⟨F2,A,L⟩:=W.yld i _ F1 H1 x H2 M s1 V.g.fh y
  refine⟨F2,τ2,ts[i],u,V.grow A,L,e4,fun F3 P j T w=>⟨F3,u,B,T,e5,?_⟩⟩
  have c:=s1.trans (A.sF.trans w)
  cases B with
  |nx d=>exact fun o S g p C=>⟨o,d,p,c.trans C,e3⟩
  |ct d=>exact fun o S g p C=>⟨o,d,p,c.trans C,e3⟩
  |bk d=>cases e3;exact fun o S g p C=>q o S g p (s'.trans (c.trans C))
  |rt v=>cases e3;exact q
 ·have he:i=ts.length:=.e
  subst he
  rw [zbE] at e3
  cases e3
  exact .inl ⟨W.stop F1 H1 s1 V.g.fh,q F1 H1 l V (s'.trans s1)⟩
noncomputable def BW (f:FE):FA:=fun τ=>(f τ).bind fun p=>match p.1 with | .lst ts=>some (ts,p.2) | .scr ts=>some (ts,p.2) | _=>none
noncomputable def G7 (f:FE):FA:=fun τ=>(f τ).bind fun p=>match p.1 with | .tup ts=>some (ts,p.2) | _=>none
theorem uF {K:.l}{F:Hp}{p:Addr}{xs:List V}{ts:List T}(h1:gE K F p xs)(h2:aU K F ts xs):Walks K F ts (RY K p):=by
 refine⟨fun i t F1 H1 e s1 s2=>?_,fun i t F1 H1 x H2 e s1 s2 y=>?_,fun F1 H1 s1 s2=>⟨xs,(s1.trans s2).seq h1,by rw [h2.length];exact zap _⟩⟩
 ·obtain⟨v,g1,_⟩:=h2.get e
  exact⟨xs,v,(s1.trans s2).seq h1,g1⟩
 ·obtain⟨rfl,y⟩:=y
  obtain⟨v,g1,g2⟩:=h2.get e
  have:=y xs ((s1.trans s2).seq h1)
  rw [g1] at this;cases this
  exact⟨F1,bj.refl s2,Rep.mono s1 g2⟩
theorem Gg {K:.l}{F:Hp}{p:Addr}{xs:List V}{ts:List T}(h1:nv K F p xs)(h2:aU K F ts xs):Walks K F ts (R0 K p):=by
 refine⟨fun i t F1 H1 e s1 s2=>?_,fun i t F1 H1 x H2 e s1 s2 y=>?_,fun F1 H1 s1 s2=>⟨xs,cw .a8 h1,by rw [h2.length];exact zap _⟩⟩
 ·obtain⟨v,g1,_⟩:=h2.get e
  exact⟨xs,v,cw .a8 h1,g1⟩
 ·obtain⟨rfl,y⟩:=y
  obtain⟨v,g1,g2⟩:=h2.get e
  have:=y xs (cw .a8 h1)
  rw [g1] at this;cases this
  exact⟨F1,bj.refl s2,Rep.mono s1 g2⟩
theorem PI.weak {t t':TI}(h:PI X tg it t)(i:∀σ H R,t' σ H R->t σ H R):PI X tg it t':=fun pins s σ H R I q=>h pins s σ H R I (i σ H R q)
theorem Eg (h:SE X l f):SI X tg l (BW f):=fun Y0 Y9=>PI.weak (Lc .c8) fun σ H R G=>by
 obtain⟨F,τ,ts,τ',E,e1,q⟩:=G
 obtain⟨⟨x,τ1⟩,e2,e1⟩:=bind_some e1
 dsimp only at e1
 split at e1
 ·cases e1
  refine⟨F,τ,_,τ',E,e2,fun F' H' v Z s' B=>?_⟩
  obtain⟨p,xs,rfl,h1,h2⟩:=B
  exact⟨p,rfl,⟨xs,gE.of (Z.g.fh _ _ h1)⟩,q F' H' _ Z s' (uF (gE.of h1) h2)⟩
 ·cases e1
  refine⟨F,τ,_,τ',E,e2,fun F' H' v Z s' B=>?_⟩
  obtain⟨p,xs,rfl,h1,h2⟩:=B
  exact⟨p,rfl,⟨xs,Z.g.fh.seq h1⟩,q F' H' _ Z s' (uF h1 h2)⟩
 ·cases e1
theorem N6 (h:SE X l f):SI X tg l (G7 f):=fun Y0 Y9=>PI.weak (NQ .c8) fun σ H R G=>by
 obtain⟨F,τ,ts,τ',E,e1,q⟩:=G
 obtain⟨⟨x,τ1⟩,e2,e1⟩:=bind_some e1
 dsimp only at e1
 split at e1
 ·cases e1
  refine⟨F,τ,_,τ',E,e2,fun F' H' v Z s' B=>?_⟩
  obtain⟨p,xs,rfl,h1,h2⟩:=B
  exact⟨p,rfl,⟨xs,cw Z.g.fh h1⟩,q F' H' _ Z s' (Gg h1 h2)⟩
 ·cases e1
def upTo (lo:Int):Nat->List T
 |0=>[]
 |n+1=>.int lo::upTo (lo+1) n
theorem jA:∀(n:Nat) (lo:Int),(upTo lo n).length=n
 |0,_=>rfl
 |n+1,lo=>by simp [upTo,jA n]
theorem uD:∀(n:Nat) (lo:Int) (i:Nat),i<n->(upTo lo n)[i]? = some (.af (lo+i))
 |0,_,_,h=>.e
 |n+1,lo,0,_=>by simp [upTo]
 |n+1,lo,i+1,h=>by
  simp only [upTo,List.getElem?_cons_succ]
  rw [uD n (lo+1) i .e]
  congr 2
  push_cast
  omega
noncomputable def bQ (g:FA):FA:=fun τ=>(g τ).bind fun p=>match p.1 with
 |[.int j]=>if -(2^62)≤j/\j<2^62 then some (upTo 0 j.toNat,p.2) else none
 |_=>none
theorem Ge {K:.l}{F:Hp}(lo:Int)(n:Nat):Walks K F (upTo lo n) (Q5 lo n):=by
 have hl:∀{i:Nat} {t:T},(upTo lo n)[i]? = some t->i<n:=fun {i t} e=>by
  have:=(zav.mp e).1
  rwa [jA] at this
 refine⟨fun i t F1 H1 e s1 s2=>hl e,fun i t F1 H1 x H2 e s1 s2 y=>?_,fun F1 H1 s1 s2=>by show n≤_;rw [jA];exact zap _⟩
 obtain⟨rfl,rfl⟩:=y
 rw [uD n lo i (hl e)] at e
 cases e
 exact⟨F1,bj.refl s2,rfl⟩
theorem fA (M:Gl X "range")(hm:X.mg "range" = none)(ha:SA X [a] ga)(hs:starEach [a] X.env=[(.m a)]:=by rfl):SI X tg (.Call (.Name "range" p) [a] [] pos) (bQ ga):=
 fun Y0 Y9=>PI.weak (FJ M hm .cb hs) fun σ H R G=>by
  obtain⟨F,τ,ts,τ',E,e1,q⟩:=G
  obtain⟨⟨x,τ1⟩,e2,e1⟩:=bind_some e1
  dsimp only at e1
  split at e1
  ·split at e1
   ·next hb =>
    cases e1
    refine⟨F,τ,_,τ',E,e2,fun F' H' vs Z s' B=>?_⟩
    obtain⟨v,r,rfl,q1,rfl⟩:=B
    cases q1
    exact⟨_,rfl,hb.1,hb.2,q F' H' _ Z s' (Ge 0 _)⟩
   ·cases e1
  ·cases e1
noncomputable def dk (ft:FT)(fb:FS):Nat->FS
 |0,_=>none
 |n+1,τ=>(ft τ).bind fun p=>if p.1=true then (fb p.2).bind fun r=>match r with
  | .nx τ2=>dk ft fb n τ2
  | .ct τ2=>dk ft fb n τ2
  | .bk τ2=>some (.nx τ2)
  | .rt v=>some (.rt v) else some (.nx p.2)
theorem mU (n:Nat){c:Expr}{body:.bB}{ft:FT}{fb:FS}(hp:.ee)(U:ST X c ft)(hb:Bs X body fb):SS X (.While c body [] pos) (dk ft fb n):=fun Y0 Y9=>PS.weak (IQ hp (U Y0 Y9) .dE) fun D σ H G=>by
 obtain⟨F,τ,r,E,e1,q⟩:=G
 refine⟨fun m σ H=>∃F1 τ1,aJ X.K Y0 Y9 F1 H σ τ1/\aW F F1/\dk ft fb m τ1=some r,⟨n,F,τ,E,aW.refl _,e1⟩,?_⟩
 rintro m l H1 ⟨F1,τ1,V,s1,e2⟩
 cases m with
 |zero=>cases e2
 |succ m =>
  obtain⟨⟨x,τ2⟩,e3,e2⟩:=bind_some e2
  refine⟨F1,τ1,x,τ2,V,e3,fun F2 H2 R s2=>?_⟩
  split at e2
  ·next h =>
   rw [if_pos h]
   obtain⟨B,e4,e2⟩:=bind_some e2
   refine⟨fun σ H=>∃F1 τ1,aJ X.K Y0 Y9 F1 H σ τ1/\aW F F1/\dk ft fb m τ1=some r,fun σ' H' n=>⟨m,zbg m,n⟩,F2,τ2,B,R,e4,?_⟩
   cases B with
   |nx d=>exact fun o S g p C=>⟨o,d,p,(s1.trans s2).trans C,e2⟩
   |ct d=>exact fun o S g p C=>⟨o,d,p,(s1.trans s2).trans C,e2⟩
   |bk d=>cases e2;exact fun o S g p C=>q o S g p ((s1.trans s2).trans C)
   |rt v=>cases e2;exact q
  ·next h =>
   rw [if_neg h]
   cases e2
   exact q F2 H2 l R .a8
noncomputable def eQ (i:Nat)(f:FE):FS:=fun τ=>match τ[i]? with
 |some (some (.own _))=>(f τ).bind fun p=>match p.2[i]? with
  |some (.s ts)=>if ts.length<sizeLine then some (.nx (p.2.set i (.s (ts++[p.1])))) else none
  |_=>none
 |_=>none
end
noncomputable def cj (m n:Nat)(fb:FS):List T->Option T:=fun ts=>if ts.length=n then (fb (.B (m-n))).bind fun r=>match r with
 | .rt t=>some t
 | .nx _=>some .non
 |_=>none else none
theorem kf {K:.l}{F H:Hp}{N:.V}{vs:List V}{ts:List T}(s:aW F H)(r:.gO):aJ K F H F H (start N vs) (.B (N.length-ts.length)):=by
 have key:∀(i:Nat) (sl:Sl),(ts.map (fun t=>some (Sl.sh t))++List.replicate (N.length-ts.length) none)[i]? = some (some sl)->∃t,ts[i]? = some t/\sl=.sh t:=fun i sl e=>by grind
 refine⟨bj.refl s,by simp [L2.start,r.length],fun i sl e=>?_,fun i j us ws p _ e1 _ _=>?_⟩
 ·obtain⟨t,e1,rfl⟩:=key i sl e
  obtain⟨v,g1,g2⟩:=r.get e1
  refine⟨v,?_,g2⟩
  have hi:=(zav.mp g1).1
  unfold L2.start
  rw [List.getElem?_append_left .dq,List.getElem?_map,g1]
  rfl
 ·obtain⟨t,_,e⟩:=key i _ e1
  cases e
section
variable {P:.ah}{w:World}{K:.l}{mg:.H}{base:Heap}
theorem bH {x qual:Str}{st:Stmt}{f:Addr}{fd:.eX}{N ps:.V}{k:Nat}{fb:FS}(F:.dt)(S:.g9)(hb:Binds K fd ps [])(hm:mg x=some (.c f))
  (h:∀(cdv:Value) (A:Around) (outer:.eW) (s:Shared) (H:Hp) (E:XK),ff k .aG->Bs (sJ uP P w K mg base N qual (ax st) f cdv A outer s H E).nox (fw st) fb):
  Def P w K mg base (k+1) x ps.length (cj N.length ps.length fb):=by
 refine⟨f,fd,ps,F.ok S (fun vs H Q E z=>z.1) .cL,hb,F.kp,hm,rfl⟩
 obtain⟨hl,F1,ts,t,sm,r,e,q⟩:=z
 unfold cj at e
 split at e
 ·next hn =>
  obtain⟨B,e1,e⟩:=bind_some e
  refine⟨_,h cdv A outer s H E hr F1 H,F1,_,B,?_,e1,?_⟩
  ·have:=kf (N:=N) sm r
   rw [hn] at this
   exact this
  ·cases B with
   |rt u=>cases e;exact fun F' H' v g B=>q F' H' v g B
   |nx τ=>cases e;exact fun F' H' σ' Z s'=>q F' H' .non Z.g rfl
   |bk τ=>cases e
   |ct τ=>cases e
 ·cases e
end
def B:Nat:=2^4000
theorem Gq {n:Nat}(h:n<B):n.log2<4000:=by
 rcases Nat.eq_zero_or_pos n with h0 | hp
 ·rw [h0];decide
 ·exact (Nat.log2_lt (za6 hp)).mpr h
theorem GH {i:Int}(h:i.natAbs<B):Builtin.Int.intBits i≤4000:=by
 unfold Builtin.Int.intBits
 split
 ·omega
 ·have:=Gq h
  omega
theorem Qa {i j:Int}(hi:i.natAbs<B)(S:j.natAbs<B):IntMulOk i j:=by
 have h1:=GH hi
 have h2:=GH S
 unfold IntMulOk
 have W:Builtin.Int.intTooBig (Builtin.Int.intBits i+Builtin.Int.intBits j)=false:=by
  unfold Builtin.Int.intTooBig
  have hb:((bitsLine:Nat):Int)=134217728:=.f
  rw [decide_eq_false]
  omega
 rw [W]
 simp
section
variable {X:Cx}
noncomputable def gI (C:Int->Int->Prop)[∀i j,Decidable (C i j)](g:Int->Int->T):T->T->Option T:=fun a b=>match a,b with
 | .int i,.int j=>if C i j then some .hy else none
 |_,_=>none
theorem MX {C:Int->Int->Prop}[∀i j,Decidable (C i j)]{i j:Int}:gI C g .eA (.af j)=if C i j then some .hy else none:=rfl
theorem AM {C:Int->Int->Prop}[∀i j,Decidable (C i j)]{g:Int->Int->T}(h:pP X f (rI C gv))(M:∀K F i j,Rep K F .hy (gv i j)):lZ X f (gI C g):=by
 intro pins s σ H x y v u Q I L Z ⟨F,a,b,t,sm,m,D,e,q⟩
 unfold gI at e
 split at e
 ·cases m
  cases D
  split at e
  ·next U =>
   cases e
   exact h pins s σ H _ _ v u Q I L Z ⟨_,_,rfl,rfl,U,q F H _ .ai (M _ _ _ _)⟩
  ·cases e
 ·cases e
theorem qf {g:Int->Int->T}(h:pP X f (Li gv))(M:∀K F i j,Rep K F .hy (gv i j)):lZ X f (gI .fR g):=
 AM (fun pins s σ H x y v u Q I L Z ⟨i,j,e1,e2,_,q⟩=>h pins s σ H x y v u Q I L Z ⟨i,j,e1,e2,q⟩) M
noncomputable def Si (g g':.cS):T->T->Option T:=fun a b=>match g a b with
 |some t=>some t
 |none=>g' a b
theorem lZ.or (h:lZ X f g)(h':lZ X f g'):lZ X f (Si g g'):=by
 intro pins s σ H x y v u Q I L Z ⟨F,a,b,t,sm,m,D,e,q⟩
 unfold Si at e
 split at e
 ·next t' j=>cases e;exact h pins s σ H x y v u Q I L Z ⟨F,a,b,_,sm,m,D,j,q⟩
 ·exact h' pins s σ H x y v u Q I L Z ⟨F,a,b,t,sm,m,D,e,q⟩
def C1 (i j:Int):Prop:=i.natAbs<B/\j.natAbs<B
instance (i j:Int):Decidable (C1 i j):=inferInstanceAs (Decidable (_/\_))
def vQ (i j:Int):Prop:=j≠0/\j.natAbs<B
instance (i j:Int):Decidable (vQ i j):=inferInstanceAs (Decidable (_/\_))
def Q4 (i j:Int):Prop:=j≠0
instance (i j:Int):Decidable (Q4 i j):=inferInstanceAs (Decidable (_≠_))
instance (i j:Int):Decidable (JG i j):=inferInstanceAs (Decidable (_/\_/\_))
abbrev Kc:=gI .fR fun i j=>.int (i-j)
abbrev cL:=gI C1 fun i j=>.int (i*j)
abbrev fK:=gI vQ fun i j=>.int (i.fdiv j)
abbrev dU:=gI Q4 fun i j=>.int (i.fmod j)
abbrev Fe:=gI JG fun i j=>.int (i^j.toNat)
abbrev Fd:=gI .fR fun i j=>.bl (decide (i<j))
abbrev uY:=gI .fR fun i j=>.bl (decide (i≤j))
abbrev zw:=gI .fR fun i j=>.bl (decide (j<i))
abbrev PB:=gI .fR fun i j=>.bl (decide (j≤i))
theorem Iu:lZ X (binaryOp .Sub) Kc:=qf Nx fun _ _ _ _=>rfl
theorem cX:lZ X (binaryOp .Mult) cL:=AM (RF fun _ _ _ _ _ _ _ U q=>mul_int q (Qa U.1 U.2)) fun _ _ _ _=>rfl
theorem eR:lZ X (binaryOp .FloorDiv) fK:=AM (RF fun _ _ _ _ _ _ _ U q=>floordiv_int U.1 q (.inl (PyProof.noPylong_of_log2 (zaS (Gq U.2) (by decide:4000<9000))))) fun _ _ _ _=>rfl
theorem fF:lZ X (binaryOp .Mod) dU:=AM KW fun _ _ _ _=>rfl
theorem Iq:lZ X (binaryOp .Pow) Fe:=AM Nv fun _ _ _ _=>rfl
theorem DR:lZ X (.ae .Lt) Fd:=qf Qj fun _ _ _ _=>rfl
theorem qK:lZ X (compareOp .LtE) uY:=qf Qi fun _ _ _ _=>rfl
theorem pe:lZ X (.ae .Gt) zw:=qf Qh fun _ _ _ _=>rfl
theorem Mn:lZ X (compareOp .GtE) PB:=qf Qg fun _ _ _ _=>rfl
noncomputable def oR:T->T->Option T
 | .str x,.str y=>if x.length+y.length≤sizeLine then some (.str (x++y)) else none
 | .lst xs,.lst ys=>if xs.length+ys.length≤sizeLine then some (.al (xs++ys)) else none
 | .tup (x::xs),.tup (y::ys)=>if (x::xs).length+(y::ys).length≤sizeLine then some (.tup (x::xs++y::ys)) else none
 |_,_=>none
theorem KZ:lZ X .gX oR:=by
 intro pins s σ H x y v u Q I L Z ⟨F,a,b,t,sm,m,D,e,q⟩
 unfold oR at e
 split at e
 ·split at e
  ·next hl =>
   cases e;cases m;cases D
   exact Cw pins s σ H _ _ v u Q I L Z ⟨_,_,rfl,rfl,hl,.eY⟩
  ·cases e
 ·split at e
  ·next hl =>
   cases e
   obtain⟨p1,w,rfl,h1,h2⟩:=m
   obtain⟨p2,g,rfl,W,N⟩:=D
   refine Nt pins s σ H _ _ v u Q I L Z ⟨p1,p2,w,g,rfl,rfl,sm _ _ h1,sm _ _ W,by rw [h2.length,N.length];exact hl,fun p hp=>?_⟩
   have A:=bj.new (.al (w++g)) sm hp
   exact q _ _ _ A ⟨p,_,rfl,aM,aU.mono A.sF (h2.append N)⟩
  ·cases e
 ·split at e
  ·next hl =>
   cases e
   obtain⟨p1,w,rfl,h1,h2⟩:=m
   obtain⟨p2,g,rfl,W,N⟩:=D
   refine KU pins s σ H _ _ v u Q I L Z ⟨p1,p2,w,g,rfl,rfl,cw sm h1,cw sm W,fun z=>?_,by rw [h2.length,N.length];exact hl,fun z=>?_,fun _ p hp=>?_⟩
   ·subst z;have:=h2.length;simp at this
   ·subst z;have:=N.length;simp at this
   ·have A:=bj.new (.tup (w++g)) sm hp
    exact q _ _ _ A ⟨p,_,rfl,nv.of aM,aU.mono A.sF (h2.append N)⟩
  ·cases e
 ·cases e
def aT:T->T->Option T:=Si (gI .fR fun i j=>.int (i+j)) oR
theorem bg:lZ X .gX aT:=lZ.or (qf Nr fun _ _ _ _=>rfl) KZ
theorem eJ {i j:Int}:aT .eA (.af j)=some (.af (i+j)):=rfl
theorem ml {xs ys:List T}(h:xs.length+ys.length≤sizeLine):aT .eJ (.al ys)=some (.al (xs++ys)):=by
 show oR .eJ (.al ys)=_
 simp only [oR,if_pos h]
theorem Hg {x y:T}{xs ys:List T}(h:(x::xs).length+(y::ys).length≤sizeLine):aT (.tup (x::xs)) (.tup (y::ys))=some (.tup (x::xs++y::ys)):=by
 show oR (.tup (x::xs)) (.tup (y::ys))=_
 simp only [oR,if_pos h]
theorem Hf {x y:Str}(h:x.length+y.length≤sizeLine):aT .fG (.str y)=some (.str (x++y)):=by
 show oR .fG (.str y)=_
 simp only [oR,if_pos h]
def oS:T->Option T
 | .int i=>some (.af (-i))
 |_=>none
theorem zm:Tw X (unaryOp .USub) oS:=by
 intro pins s σ H x v Q I L ⟨F,a,t,sm,m,e,q⟩
 unfold oS at e
 split at e
 ·cases e;cases m
  exact Ot pins s σ H _ v Q I L ⟨_,rfl,.eY⟩
 ·cases e
mutual
def zy:T->Option PyData
 | .non=>some .none
 | .bl b=>some (.bool b)
 | .int i=>some .eA
 | .str x=>some .fG
 | .tup ts=>(qu ts).map .tuple
 | .lst ts=>(qu ts).map .list
 | .scr ts=>(qu ts).map .list
 | .ty _=>none
 | .dct _ _=>none
 | .obj _ _ _=>none
 | .ptr _=>none
 | .exc _ _ _=>none
def qu:List T->Option (List PyData)
 |[]=>some []
 |t::ts=>(zy t).bind fun d=>(qu ts).bind fun ds=>some (d::ds)
end
mutual
theorem gx (I:.u)(sm:aW F H):∀{t:T} {d:PyData} {v:V} {u:Value},zy t=some d->Rep X.K F t v->RelV v u->∃as,Reads s.heap u d as
 | .non,d,v,u,e,r,W=>by cases r;cases e;cases W;exact⟨_,.none⟩
 | .bl b,d,v,u,e,r,W=>by cases r;cases e;cases W;exact⟨_,.bool _⟩
 | .int i,d,v,u,e,r,W=>by cases r;cases e;obtain⟨t,rfl⟩:=W;exact⟨_,.int _ _⟩
 | .str x,d,v,u,e,r,W=>by cases r;cases e;obtain⟨t,rfl⟩:=W;exact⟨_,.str _ _⟩
 | .ty _,d,v,u,e,r,W=>by cases e
 | .dct _ _,d,v,u,e,r,W=>by cases e
 | .obj _ _ _,d,v,u,e,r,W=>by cases e
 | .ptr _,d,v,u,e,r,W=>by cases e
 | .exc _ _ _,d,v,u,e,r,W=>by cases e
 | .tup ts,d,v,u,e,r,W=>by
  obtain⟨p,xs,rfl,h1,h2⟩:=r
  cases W
  simp only [zy] at e
  cases e1:qu ts with
  |none=>rw [e1] at e;cases e
  |some ds =>
   rw [e1] at e;cases e
   obtain⟨G,f,⟨o,g1,g2,n,g3⟩,_⟩:=I.tuple (cw sm h1)
   obtain⟨as,q⟩:=jx I sm e1 h2 f
   exact⟨_,.tuple g1 g2 g3 q⟩
 | .lst ts,d,v,u,e,r,W=>by
  obtain⟨p,xs,rfl,h1,h2⟩:=r
  cases W
  simp only [zy] at e
  cases e1:qu ts with
  |none=>rw [e1] at e;cases e
  |some ds =>
   rw [e1] at e;cases e
   obtain⟨G,f,⟨o,n,g1,g2,_,g3⟩,_⟩:=I.list .fa
   obtain⟨as,q⟩:=jx I sm e1 h2 f
   exact⟨_,.list g1 g2 g3 q⟩
 | .scr ts,d,v,u,e,r,W=>by
  obtain⟨p,xs,rfl,h1,h2⟩:=r
  cases W
  simp only [zy] at e
  cases e1:qu ts with
  |none=>rw [e1] at e;cases e
  |some ds =>
   rw [e1] at e;cases e
   obtain⟨G,f,⟨o,n,g1,g2,_,g3⟩,_⟩:=I.list (sm.seq h1)
   obtain⟨as,q⟩:=jx I sm e1 h2 f
   exact⟨_,.list g1 g2 g3 q⟩
theorem jx (I:.u)(sm:aW F H):∀{ts:List T} {ds:List PyData} {vs:List V} {us:.S},qu ts=some ds->aU X.K F ts vs->Vals vs us->∃as,ReadsAll s.heap us ds as
 |[],ds,vs,us,e,r,W=>by cases r;cases W;cases e;exact⟨_,.nil⟩
 |t::ts,ds,vs,us,e,r,W=>by
  obtain⟨v,w,rfl,h1,h2⟩:=r
  cases W with
  |cons r1 r2 =>
   obtain⟨d,e1,e⟩:=bind_some e
   obtain⟨a,e2,e⟩:=bind_some e
   cases e
   obtain⟨as,q1⟩:=gx I sm e1 h1 r1
   obtain⟨bs,q2⟩:=jx I sm e2 h2 r2
   exact⟨_,.cons q1 q2⟩
end
noncomputable def zV (neg:Bool)(a b:T):Option T:=(zy a).bind fun p=>(zy b).bind fun q=>if SeqAt.shaped p=true/\SeqAt.shaped q=true then some (.bl (if neg then !PyData.eqv p q else PyData.eqv p q)) else none
abbrev il:=zV false
abbrev xS:=zV true
theorem gh (hu:.bf):lZ X (.ae .Eq) il:=by
 intro pins s σ H x y v u Q I L Z ⟨F,a,b,t,sm,m,D,e,q⟩
 obtain⟨E,e1,e⟩:=bind_some e
 obtain⟨J,e2,e⟩:=bind_some e
 split at e
 ·next hs =>
  cases e
  obtain⟨as,q1⟩:=gx I sm e1 m L
  obtain⟨bs,q2⟩:=gx I sm e2 D Z
  exact SeqAt.compareEq_shaped q1 q2 hs.1 hs.2 hu .cd
 ·cases e
theorem qL (hu:.bf):lZ X (compareOp .NotEq) xS:=by
 intro pins s σ H x y v u Q I L Z ⟨F,a,b,t,sm,m,D,e,q⟩
 obtain⟨E,e1,e⟩:=bind_some e
 obtain⟨J,e2,e⟩:=bind_some e
 split at e
 ·next hs =>
  cases e
  obtain⟨as,q1⟩:=gx I sm e1 m L
  obtain⟨bs,q2⟩:=gx I sm e2 D Z
  exact SeqAt.compareNe_shaped q1 q2 hs.1 hs.2 hu .cd
 ·cases e
def DF:T->Bool
 | .non=>true
 |_=>false
noncomputable def OI:T->T->Option T
 |a,.non=>some (.bl (DF a))
 | .bl c,.bl d=>some (.bl (c == d))
 |_,_=>none
theorem wy {K:.l}{F:Hp}{t:T}{v:V}(r:.fW):decide (v=.non)=DF t:=by
 cases t with
 |non=>cases r;rfl
 |bl _=>cases r;rfl
 |int _=>cases r;rfl
 |str _=>cases r;rfl
 |ty _=>cases r;rfl
 |tup _=>obtain⟨p,xs,rfl,_⟩:=r;rfl
 |lst _=>obtain⟨p,xs,rfl,_⟩:=r;rfl
 |scr _=>obtain⟨p,xs,rfl,_⟩:=r;rfl
 |dct _ _=>obtain⟨p,_,_,rfl,_⟩:=r;rfl
 |obj _ _ _=>obtain⟨p,_,_,rfl,_⟩:=r;rfl
 |ptr _=>rw [r];rfl
 |exc _ _ _=>obtain⟨p,_,rfl,_⟩:=r;rfl
theorem Ql:lZ X (.ae .Is) OI:=by
 intro pins s σ H x y v u Q I L Z ⟨F,a,b,t,sm,m,D,e,q⟩
 unfold OI at e
 split at e
 ·cases e;cases D
  exact Nu pins s σ H _ _ v u Q I L Z ⟨rfl,by rw [wy m];exact q F H _ .ai rfl⟩
 ·cases e;cases m;cases D;cases L;cases Z
  exact is_bool .cd
 ·cases e
noncomputable def br:T->T->Option T
 | .lst ts,.int i=>zr ts i
 | .scr ts,.int i=>zr ts i
 | .tup ts,.int i=>zr ts i
 | .str x,.int i=>if x.length≤sizeLine then (zr x.cps.toList i).map fun c=>.str ⟨#[c]⟩ else none
 |_,_=>none
theorem xm {K:.l}{F:Hp}{ts:List T}{vs:List V}{i:Int}{t:T}(r:.gO)(e:zr ts i=some t):∃v,zr vs i=some v/\Rep K F t v:=by
 unfold zr at e ⊢
 rw [r.length]
 obtain⟨j,e1,e2⟩:=bind_some e
 obtain⟨v,g1,g2⟩:=r.get e2
 exact⟨v,by rw [e1];exact g1,g2⟩
theorem aP:Ov X (NZ X.K br):=by
 intro value slice pins s σ H x y v u Q I L Z ⟨F,a,b,t,sm,m,D,e,q⟩ hs
 unfold br at e
 split at e
 ·obtain⟨p,xs,rfl,h1,h2⟩:=m
  cases D
  obtain⟨w,g1,g2⟩:=xm h2 e
  exact DH value slice pins s σ H _ _ v u Q I L Z ⟨p,xs,_,w,rfl,rfl,gE.of (sm _ _ h1),g1,q F H _ .ai g2⟩ hs
 ·obtain⟨p,xs,rfl,h1,h2⟩:=m
  cases D
  obtain⟨w,g1,g2⟩:=xm h2 e
  exact DH value slice pins s σ H _ _ v u Q I L Z ⟨p,xs,_,w,rfl,rfl,sm.seq h1,g1,q F H _ .ai g2⟩ hs
 ·obtain⟨p,xs,rfl,h1,h2⟩:=m
  cases D
  obtain⟨w,g1,g2⟩:=xm h2 e
  exact M8 value slice pins s σ H _ _ v u Q I L Z ⟨p,xs,_,w,rfl,rfl,cw sm h1,g1,q F H _ .ai g2⟩ hs
 ·split at e
  ·next hl =>
   cases m;cases D
   cases e1:zr (Str.cps _).toList _ with
   |none=>rw [e1] at e;cases e
   |some c =>
    rw [e1] at e;cases e
    exact M7 value slice pins s σ H _ _ v u Q I L Z ⟨_,_,c,rfl,rfl,hl,e1,.eY⟩ hs
  ·cases e
 ·cases e
theorem iV (h:gk X f r)(i:∀vs H Q,RH X.K g vs H Q->r vs H Q):gY X f g:=fun pins s σ H xs us Q I L q=>h pins s σ H xs us Q I L (i _ _ _ q)
noncomputable def cJ:List T->Option T
 |[.lst ts]=>some (.int ts.length)
 |[.scr ts]=>some (.int ts.length)
 |[.tup ts]=>some (.int ts.length)
 |[.str x]=>if x.length≤sizeLine then some (.int x.length) else none
 |_=>none
theorem dr:gY X .gs cJ:=iV (gk.or xp xq) fun vs H Q G=>by
 obtain⟨F,ts,t,sm,r,e,q⟩:=G
 unfold cJ at e
 split at e
 ·obtain⟨v,w,rfl,⟨p,xs,rfl,h1,h2⟩,rfl⟩:=r
  cases e
  exact .inl ⟨p,xs,rfl,.inl .fa,by rw [h2.length];exact q F H _ .ai rfl⟩
 ·obtain⟨v,w,rfl,⟨p,xs,rfl,h1,h2⟩,rfl⟩:=r
  cases e
  exact .inl ⟨p,xs,rfl,.inl (sm.seq h1),by rw [h2.length];exact q F H _ .ai rfl⟩
 ·obtain⟨v,w,rfl,⟨p,xs,rfl,h1,h2⟩,rfl⟩:=r
  cases e
  exact .inl ⟨p,xs,rfl,.inr (cw sm h1),by rw [h2.length];exact q F H _ .ai rfl⟩
 ·split at e
  ·next hl =>
   obtain⟨v,w,rfl,h1,rfl⟩:=r
   cases h1;cases e
   exact .bg ⟨_,rfl,hl,.eY⟩
  ·cases e
 ·cases e
def sL:List T->Option T
 |[.int i]=>some (.af (if i<0 then -i else i))
 |_=>none
theorem sE:gY X (.builtin "abs") sL:=iV GJ fun vs H Q G=>by
 obtain⟨F,ts,t,sm,r,e,q⟩:=G
 unfold sL at e
 split at e
 ·obtain⟨v,w,rfl,h1,rfl⟩:=r
  cases h1;cases e
  exact⟨_,rfl,q F H _ .ai rfl⟩
 ·cases e
noncomputable def Sa:List T->Option T
 |[.int i,.int j]=>some (.af (if j>i then j else i))
 |_=>none
noncomputable def JU:List T->Option T
 |[.int i,.int j]=>some (.af (if j<i then j else i))
 |_=>none
theorem MI (U:.bt):gY X (.builtin "min") JU:=iV (EO U) fun vs H Q G=>by
 obtain⟨F,ts,t,sm,r,e,q⟩:=G
 unfold JU at e
 split at e
 ·obtain⟨v,w,rfl,h1,v2,r2,rfl,h2,rfl⟩:=r
  cases h1;cases h2;cases e
  exact⟨_,_,rfl,q F H _ .ai rfl⟩
 ·cases e
noncomputable def JT:List T->Option T
 |[.int i]=>some .eA
 |[.bl c]=>some (.af (if c then 1 else 0))
 |_=>none
theorem MH:gY X (.type "int") JT:=iV EL fun vs H Q G=>by
 obtain⟨F,ts,t,sm,r,e,q⟩:=G
 unfold JT at e
 split at e
 ·obtain⟨v,w,rfl,h1,rfl⟩:=r
  cases h1;cases e
  exact .inl ⟨_,rfl,.eY⟩
 ·obtain⟨v,w,rfl,h1,rfl⟩:=r
  cases h1;cases e
  exact .bg ⟨_,rfl,.eY⟩
 ·cases e
noncomputable def lM:List T->Option T
 |[.int i]=>if i.natAbs.log2<1920 then some (.str (toString i)) else none
 |_=>none
theorem sG:gY X (.type "str") lM:=iV xu fun vs H Q G=>by
 obtain⟨F,ts,t,sm,r,e,q⟩:=G
 unfold lM at e
 split at e
 ·split at e
  ·next hl =>
   obtain⟨v,w,rfl,h1,rfl⟩:=r
   cases h1;cases e
   exact⟨_,rfl,hl,q F H _ .ai rfl⟩
  ·cases e
 ·cases e
noncomputable def dList:List T->Option T
 |[.lst ts]=>some .dn
 |[.scr ts]=>some .dn
 |[.tup ts]=>some .dn
 |_=>none
theorem JO:gY X .hJ dList:=iV xr fun vs H Q G=>by
 obtain⟨F,ts,t,sm,r,e,q⟩:=G
 unfold dList at e
 split at e
 ·obtain⟨v,w,rfl,⟨p,xs,rfl,h1,h2⟩,rfl⟩:=r
  cases e
  refine⟨p,xs,rfl,.inl .fa,fun l hl=>?_⟩
  have A:=bj.new .eJ sm hl
  exact .fj
 ·obtain⟨v,w,rfl,⟨p,xs,rfl,h1,h2⟩,rfl⟩:=r
  cases e
  refine⟨p,xs,rfl,.inl (sm.seq h1),fun l hl=>?_⟩
  have A:=bj.new .eJ sm hl
  exact .fj
 ·obtain⟨v,w,rfl,⟨p,xs,rfl,h1,h2⟩,rfl⟩:=r
  cases e
  refine⟨p,xs,rfl,.inr (cw sm h1),fun l hl=>?_⟩
  have A:=bj.new .eJ sm hl
  exact .fj
 ·cases e
noncomputable def OO:T->Option String
 | .non=>some "NoneType"
 | .bl _=>some "bool"
 | .int _=>some "int"
 | .str _=>some "str"
 | .tup _=>some "tuple"
 | .lst _=>some "list"
 | .scr _=>some "list"
 | .dct _ _=>some "dict"
 | .obj _ _ _=>none
 | .ptr _=>none
 | .exc _ _ _=>none
 | .ty _=>none
def kinds:List String:=["int","bool","str","list","tuple","dict"]
noncomputable def Rz (a c:String):Option Bool:=if c∈kinds then some (a == c||(a == "bool"&&c == "int")) else none
noncomputable def M6 (a:String):List T->Option Bool
 |[]=>some false
 | .ty c::r=>(Rz a c).bind fun b=>if b=true then some true else M6 a r
 |_::_=>none
theorem HF {K:.l}{t:T}{a c:String}{b:Bool}(ha:OO t=some a)(h:Rz a c=some b):PySem.W.kitOne K (.type a) (.type c)=some b:=by
 have ha:a∈["NoneType","bool","int","str","tuple","list","dict"]:=by
  cases t<;>simp only [OO] at ha<;>cases ha<;>simp
 unfold Rz at h
 split at h
 ·next U =>
  cases h
  simp only [kinds,List.mem_cons,List.not_mem_nil,or_false] at U ha
  rcases ha with rfl | rfl | rfl | rfl | rfl | rfl | rfl<;>rcases U with rfl | rfl | rfl | rfl | rfl | rfl<;>rfl
 ·cases h
theorem DJ {K:.l}{F:Hp}{t:T}{a:String}(ha:OO t=some a):∀{cs:List T} {vs:List V} {us:.S} {b:Bool},M6 a cs=some b->aU K F cs vs->Vals vs us->PySem.W.kitAny K (.type a) us=some b
 |[],vs,us,b,h,r,W=>by cases r;cases W;cases h;rfl
 | .ty c::cs,vs,us,b,h,r,W=>by
  obtain⟨v,w,rfl,h1,h2⟩:=r
  cases h1
  cases W with
  |cons r1 r2 =>
   cases r1
   obtain⟨i,e1,h⟩:=bind_some h
   unfold PySem.W.kitAny
   rw [HF ha e1]
   cases i with
   |true=>rw [if_pos rfl] at h;exact h
   |false=>rw [if_neg .f] at h;exact DJ ha h h2 r2
 | .non::cs,vs,us,b,h,r,W=>by cases h
 | .bl _::cs,vs,us,b,h,r,W=>by cases h
 | .int _::cs,vs,us,b,h,r,W=>by cases h
 | .str _::cs,vs,us,b,h,r,W=>by cases h
 | .tup _::cs,vs,us,b,h,r,W=>by cases h
 | .lst _::cs,vs,us,b,h,r,W=>by cases h
 | .scr _::cs,vs,us,b,h,r,W=>by cases h
 | .dct _ _::cs,vs,us,b,h,r,W=>by cases h
 | .obj _ _ _::cs,vs,us,b,h,r,W=>by cases h
 | .ptr _::cs,vs,us,b,h,r,W=>by cases h
 | .exc _ _ _::cs,vs,us,b,h,r,W=>by cases h
theorem Az (I:.u)(sm:aW F H)(r:Rep X.K F t v)(W:RelV v u)(ha:OO t=some a):
  ∃c:Heap->Prop,PySem.W.KitX X.K u (.type a) c/\c s.heap/\u≠.builtin "__main__.__loader__#opaque" := by
 cases t with
 |non=>cases r;cases W;cases ha;exact⟨_,PySem.W.kitx_none,True.intro,fun z=>nomatch z⟩
 |bl _=>cases r;cases W;cases ha;exact⟨_,PySem.W.kitx_bool,True.intro,fun z=>nomatch z⟩
 |int _=>cases r;obtain⟨t,rfl⟩:=W;cases ha;exact⟨_,PySem.W.kitx_int,True.intro,fun z=>nomatch z⟩
 |str _=>cases r;obtain⟨t,rfl⟩:=W;cases ha;exact⟨_,PySem.W.kitx_str,True.intro,fun z=>nomatch z⟩
 |ty _=>cases ha
 |tup _ =>
  obtain⟨p,xs,rfl,h1,h2⟩:=r
  cases W;cases ha
  obtain⟨G,f,⟨o,g1,g2,n,g3⟩,_⟩:=I.tuple (cw sm h1)
  exact⟨_,PySem.W.kitx_tuple,⟨o,g1,g2⟩,fun z=>nomatch z⟩
 |lst _ =>
  obtain⟨p,xs,rfl,h1,h2⟩:=r
  cases W;cases ha
  obtain⟨G,f,⟨o,n,g1,g2,_,g3⟩,_⟩:=I.list .fa
  exact⟨_,zbL,⟨o,g1,g2⟩,fun z=>nomatch z⟩
 |scr _ =>
  obtain⟨p,xs,rfl,h1,h2⟩:=r
  cases W;cases ha
  obtain⟨G,f,⟨o,n,g1,g2,_,g3⟩,_⟩:=I.list (sm.seq h1)
  exact⟨_,zbL,⟨o,g1,g2⟩,fun z=>nomatch z⟩
 |dct ns ts =>
  obtain⟨p,ob,us,rfl,h1,_⟩:=r
  cases W;cases ha
  obtain⟨_,_,vs,_,o,es,ep,h1,h2,_⟩:=((I.hok p _ (sm _ _ h1)).2)
  exact⟨_,zb9,⟨o,h1,h2.1⟩,fun z=>nomatch z⟩
 |obj _ _ _=>cases ha
 |ptr _=>cases ha
 |exc _ _ _=>cases ha
noncomputable def bV:List T->Option T
 |[t,.ty c]=>(OO t).bind fun a=>(Rz a c).bind fun b=>some (.bl b)
 |[t,.tup cs]=>(OO t).bind fun a=>(M6 a cs).bind fun b=>some (.bl b)
 |_=>none
theorem pU:gY X .g2 bV:=by
 intro pins s σ H xs us Q I L ⟨F,ts,t,sm,r,e,q⟩
 unfold bV at e
 split at e
 ·obtain⟨a,e1,e⟩:=bind_some e
  obtain⟨b,e2,e⟩:=bind_some e
  cases e
  obtain⟨v,w,rfl,h1,v2,r2,rfl,h2,rfl⟩:=r
  cases h2
  obtain⟨M,g,rfl,m,D⟩:=Vals.two L
  cases D
  obtain⟨c,Z,S,hn⟩:=Az I sm h1 m e1
  exact zaO Z I.kIn S (HF e1 e2) hn fun tk=>⟨.bl b,H,I.tok tk,rfl,q F H _ .ai rfl⟩
 ·obtain⟨a,e1,e⟩:=bind_some e
  obtain⟨b,e2,e⟩:=bind_some e
  cases e
  obtain⟨v,w,rfl,h1,v2,r2,rfl,⟨p,xs,rfl,W,N⟩,rfl⟩:=r
  obtain⟨M,g,rfl,m,D⟩:=Vals.two L
  cases D
  obtain⟨c,Z,S,hn⟩:=Az I sm h1 m e1
  obtain⟨G,f,⟨o,g1,g2,n,g3⟩,_⟩:=I.tuple (cw sm W)
  obtain⟨oc,od,d,osl⟩:=o
  subst g2 g3
  exact PySem.W.kia_tup Z I.kIn S g1 (DJ e1 e2 N f) hn fun tk=>⟨.bl b,H,I.tok tk,rfl,q F H _ .ai rfl⟩
 ·cases e
end
section
variable {X:Cx}{pos:Pos}
def Se:FE:=fun τ=>some (.dic,τ)
abbrev FO:=aE->Option (Option Int×aE)
noncomputable def tO (K:.l)(Y0 Y9:Hp)(f:FO):TO:=fun σ H Q=>∃F τ o τ',aJ K Y0 Y9 F H σ τ/\f τ=some (o,τ')/\∀F' H',aJ K Y0 Y9 F' H' σ τ'->aW F F'->Q o H'
def SO (X:Cx)(e:Option Expr)(f:FO):Prop:=∀Y0 Y9,PO X e (tO X.K Y0 Y9 f)
def cP:FO:=fun τ=>some (none,τ)
noncomputable def cT (f:FE):FO:=fun τ=>(f τ).bind fun p=>match p.1 with | .int i=>some (some i,p.2) | _=>none
theorem PO.weak {t t':TO}(h:PO X e t)(i:∀σ H Q,t' σ H Q->t σ H Q):PO X e t':=.dX
theorem pB:SO X none cP:=fun Y0 Y9=>PO.weak Ld fun σ H Q G=>by
 obtain⟨F,τ,t,τ',E,e1,q⟩:=G
 cases e1
 exact q F H E .d9
theorem jy (h:.gF):SO X (some e) (cT f):=fun Y0 Y9=>PO.weak (Le .c8) fun σ H Q G=>by
 obtain⟨F,τ,t,τ',E,e1,q⟩:=G
 obtain⟨⟨x,τ1⟩,e2,e1⟩:=bind_some e1
 dsimp only at e1
 split at e1
 ·cases e1
  exact⟨F,τ,_,_,E,e2,fun F' H' v Z s' B=>by cases B;exact⟨_,rfl,q F' H' Z s'⟩⟩
 ·cases e1
noncomputable def pV (xs:List T)(lo hi:.e1):List T:=(xs.drop (HT.gD xs.length 0 lo)).take (HT.gD xs.length xs.length hi-HT.gD xs.length 0 lo)
noncomputable def PF (t:T)(lo hi:.e1):Option T:=match t with
 | .lst xs=>some (.al (pV xs lo hi))
 | .scr xs=>some (.al (pV xs lo hi))
 | .tup xs=>if HT.gD xs.length 0 lo=0/\HT.gD xs.length xs.length hi=xs.length then none else some (.tup (pV xs lo hi))
 |_=>none
theorem xE {K:.l}{F:Hp}{ts:List T}{vs:List V}(r:.gO)(lo hi:.e1):aU K F (pV ts lo hi) (sI vs lo hi):=by
 unfold pV sI
 rw [r.length]
 exact (r.drop _).take _
noncomputable def qE (f:FE)(fl fh:FO):FE:=fun τ=>(f τ).bind fun p=>(fl p.2).bind fun q=>(fh q.2).bind fun r=>(PF p.1 q.1 r.1).bind fun t=>some (t,r.2)
theorem kn {e:Expr}{lo hi:Option Expr}{f:FE}{fl fh:FO}{p2:Pos}(he:.gF)(hl:SO X lo fl)(S:SO X hi fh):SE X (.ab e (.Slice lo hi none p2)) (qE f fl fh):=
 fun Y0 Y9=>PE.weak (IG (LV.or Lx N7) .eR (hl Y0 Y9) (S Y0 Y9)) fun σ H Q G=>by
  obtain⟨F,τ,t,τ',E,e1,q⟩:=G
  obtain⟨⟨x,τ1⟩,e2,e1⟩:=bind_some e1
  obtain⟨⟨l,τ2⟩,e3,e1⟩:=bind_some e1
  obtain⟨⟨h,u⟩,e4,e1⟩:=bind_some e1
  obtain⟨y,e5,e1⟩:=bind_some e1
  cases e1
  refine⟨F,τ,x,τ1,E,e2,fun F1 H1 v V s1 r1=>⟨F1,τ1,l,τ2,V,e3,fun F2 H2 R s2=>⟨F2,τ2,h,_,R,e4,fun F3 P T w=>?_⟩⟩⟩
  have r3:=Rep.mono (s2.trans w) r1
  have sm:=T.g.fh
  dsimp only at e5
  unfold PF at e5
  split at e5
  ·cases e5
   obtain⟨p,xs,rfl,h1,h2⟩:=r3
   refine .inl ⟨p,xs,rfl,gE.of (sm _ _ h1),fun a ha=>?_⟩
   have A:=bj.new (.al (sI xs l h)) sm ha
   exact .au ⟨a,_,rfl,aM,aU.mono A.sF (xE h2 l h)⟩
  ·cases e5
   obtain⟨p,xs,rfl,h1,h2⟩:=r3
   refine .inl ⟨p,xs,rfl,sm.seq h1,fun a ha=>?_⟩
   have A:=bj.new (.al (sI xs l h)) sm ha
   exact .au ⟨a,_,rfl,aM,aU.mono A.sF (xE h2 l h)⟩
  ·split at e5
   ·cases e5
   ·next hn =>
    cases e5
    obtain⟨p,xs,rfl,h1,h2⟩:=r3
    refine .inr ⟨p,xs,rfl,cw sm h1,by rw [h2.length];exact hn,fun a ha=>?_⟩
    have A:=bj.new (.tup (sI xs l h)) sm ha
    exact .au ⟨a,_,rfl,nv.of aM,aU.mono A.sF (xE h2 l h)⟩
  ·cases e5
theorem cZ (i:Nat){p1 p2 p3:Pos}(N:PE X .de (vN i))(he:.gF)
  (j:attributeBase .de "append" X.env (.Z .de)=eval .de X.env:=by rfl)
  (d:(.s (starEach [e] X.env) .cm)=true:=by rfl)
  (c:.gV=true:=by rfl) (hs:starEach [e] X.env=(.m e)::starEach [] X.env:=by rfl) (l:(backTo p3 .gx).any (·.1)=false:=by rfl)
  (W:swapsWith (.Call (.Attribute .de "append" p2) [e] [] p3) none pos.line X.env=pure false:=by rfl):
  SS X (.Expr (.Call (.Attribute .de "append" p2) [e] [] p3) pos) (eQ i f):=fun Y0 Y9 =>
 PS.weak (yN (DU zbI PySem.F.slot_list_append PySem.F.type_list_append wH N (jw .eR qg hs) j d c hs l) W) fun D σ H G=>by
  obtain⟨F,τ,r,E,e1,q⟩:=G
  unfold eQ at e1
  split at e1
  ·next a h0 =>
   obtain⟨⟨t,τ1⟩,e2,e1⟩:=bind_some e1
   split at e1
   ·next ts h1 =>
    split at e1
    ·next hz =>
     cases e1
     obtain⟨v,g1,p,vs,rfl,g2,g3,C,Y⟩:=E.sl i _ h0
     refine⟨_,g1,.inl ⟨rfl,vs,gE.of g2⟩,F,τ,t,τ1,E,e2,fun F' H' w Z s' B=>?_⟩
     obtain⟨v',k1,P,u,rfl,k2,k3,L,k5⟩:=Z.sl i _ h1
     rw [g1] at k1;cases k1
     exact⟨p,u,w,rfl,rfl,k2,by rw [k5.length];exact hz,q F' _ σ (Z.turnOwn h1 g1 (k5.append (.one B))) s'⟩
    ·cases e1
   ·cases e1
  ·cases e1
def N8 (a b c:Int):Prop:=(0≤a/\a<2^62)/\(0≤b/\b<2^62)/\(1≤c/\c<2^29)
instance (a b c:Int):Decidable (N8 a b c):=inferInstanceAs (Decidable ((_/\_)/\(_/\_)/\_/\_))
end
noncomputable def gH (b:Bool)(h:Heap)(it a:Addr)(i:Nat):Prop:=match b with
 |true=>h.IsListIter it a i
 |false=>h.IsTupleIter it a i
noncomputable def kr (b:Bool)(h:Heap)(a:Addr)(xs:.cv):Prop:=match b with
 |true=>h.IsList a xs
 |false=>h.IsTuple a xs
theorem gH.ext {b:Bool}{h h':Heap}{i:Nat}(x:gH b h it a i)(k:∀o,h.get? it=some o->h'.get? it=some o):gH b h' it a i:=by
 cases b with
 |true=>obtain⟨o,e,r⟩:=x;exact⟨o,k o e,r⟩
 |false=>obtain⟨o,e,r⟩:=x;exact⟨o,k o e,r⟩
theorem kr.ext {b:Bool}{h h':Heap}(x:kr b h a xs)(k:∀o,h.get? a=some o->h'.get? a=some o):kr b h' a xs:=by
 cases b with
 |true=>obtain⟨o,e,r⟩:=x;exact⟨o,k o e,r⟩
 |false=>obtain⟨o,e,r⟩:=x;exact⟨o,k o e,r⟩
theorem gH.obj {b:Bool}{i:Nat}(x:gH b h it a i):∃o,h.get? it=some o/\∀v,o.data≠.cell v:=by
 cases b with
 |true=>obtain⟨o,e,_,d⟩:=x;exact⟨o,e,fun v z=>by rw [d] at z;cases z⟩
 |false=>obtain⟨o,e,_,d⟩:=x;exact⟨o,e,fun v z=>by rw [d] at z;cases z⟩
section
variable {prog:.ah}{w:World}{A:Around}{E:.o}{s:Shared}
theorem mE {b:Bool}{i:Nat}{Q:.o}(h1:gH b s.heap it a i)(h2:kr b s.heap a xs)(hx:xs[i]? = some x)
  (B:∀h',gH b h' it a (i+1)->Heap.SameBut it s.heap h'->Q x { s with heap:=h' }):wpAny .Q A (Builtin.SmallTypes.nextOf .g1) Q E s:=by
 cases b with
 |true=>exact wpAny_nextOf_list_item h1 h2 hx B
 |false =>
  have c:=h1
  obtain⟨o,ho,U,hd⟩:=id c
  obtain⟨ol,d,_,nl,g⟩:=(h2)
  refine .f (wpAny_callSpecial?_slot c.typeIs F.slot_tuple_iterator_next (wpAny_call_entry F.slot_tuple_iterator_next c.typeIs F.entry_tuple_iterator_next (?_:wpAny _ _ (field _ 0 >>= _) _ _ s) (F.args_tuple_iterator_next_1 _)))
  refine .f (wpAny_field ho hd rfl (?_:wpAny _ _ _ _ _ s))
  refine (wpAny_bind (wpAny_field ho hd rfl ?_):wpAny _ _ (field _ 1 >>= _) _ _ s)
  refine .f (wpAny_seqItems d g ?_)
  simp only [Int.toNat_natCast,hx]
  refine .f (wpAny_setField ho hd .h (.ao ⟨x,rfl,wpAny_pure (B _ ⟨_,Heap.get?_update_self _ ho (Obj.isFreed_of_fields (Obj.data_mapFields hd _)),(Obj.cls_mapFields ..).trans U,?_⟩ (Heap.SameBut.update ..))⟩))
  rw [Obj.data_mapFields hd]<;>simp [rawInt]
theorem tK {b:Bool}{i:Nat}(hh:A.handled=none)(h1:gH b s.heap it a i)(h2:kr b s.heap a xs)(hx:xs[i]? = none)
  (hE:∀h' e,Heap.ExtBut it s.heap h'->(∃o,h'.get? e=some o/\o.cls=.type "StopIteration")->E (.c e) { s with heap:=h' }):wpAny .Q A (Builtin.SmallTypes.nextOf .g1) Q E s:=by
 cases b with
 |true=>exact wpAny_nextOf_list_end hh h1 h2 hx hE
 |false =>
  have h1':s.heap.IsTupleIter it a i:=h1
  obtain⟨o,ho,hc,hd⟩:=id h1'
  obtain⟨ol,hol,_,nl,hdl⟩:=(show s.heap.IsTuple a xs from h2)
  unfold Builtin.SmallTypes.nextOf
  refine wpAny_bind (wpAny_callSpecial?_slot (name:=Str.ofString "__next__") h1'.typeIs F.slot_tuple_iterator_next (wpAny_call_entry F.slot_tuple_iterator_next h1'.typeIs F.entry_tuple_iterator_next (?_:wpAny _ _ (field .g1 0 >>= _) _ _ s) (F.args_tuple_iterator_next_1 _)))
  refine .f (wpAny_field ho hd (x:=.ref a) rfl (?_:wpAny _ _ (if (Value.ref a == Value.none)=true then _ else _) _ _ s))
  rw [if_neg (show ¬ ((Value.ref a == Value.none)=true) from zaR)]
  refine (wpAny_bind (wpAny_field ho hd (x:=.int i 0) rfl ?_):wpAny _ _ (field .g1 1 >>= _) _ _ s)
  refine .f (wpAny_seqItems (a:=a) hol hdl ?_)
  simp only [Int.toNat_natCast,hx]
  refine .f (wpAny_rule (.G (wpAny_setField ho hd .h (wpAny_bind (m:=newExc (.type "StopIteration") []) ?_))))
  simp only [newExc,newTuple]
  refine wpAny_bind (wpAny_newObj_type (wpAny_bind (m:=firstArgMember _ _) (wpAny_of_eq (a:=Value.none) (by first | rfl | (simp only [firstArgMember];rfl)) (wpAny_newObj_type ?_ (by size_fits)))) (by size_fits))
  simp only [raiseNew]
  refine .f (wpAny_handled ?_)
  first | rw [show A.in1.handled=none from hh] | rw [hh]
  exact .f (.ao (wpAny_throw (hE _ _ (((Heap.SameBut.update ..).extBut.push _).push _) ⟨_,.ac,rfl⟩)))
variable {z TI TO i1 i2 l1 l2:Addr}{k:Nat}{xs ys:.cv}{x y a b:Value}{c1 c2:Bool}
theorem JA {Q:.o}(D:.dZ)(hz:.gg)(hI:.eI)(hO:IsPair s.heap TO a b)
  (h1:gH c1 s.heap i1 l1 k) (h2:gH c2 s.heap i2 l2 k) (j:.g8) (m:.g7) (hx:xs[k]? = some x) (R:ys[k]? = some y)
  (B:∀h',IsZip h' z TI TO (rawInt s.heap.objs.size)->IsPair h' TO x y->gH c1 h' i1 l1 (k+1)->gH c2 h' i2 l2 (k+1)->IsPair h' s.heap.objs.size x y ->
   .a0->Q .a6 { s with heap:=h' }):
  wpAny .Q A (Builtin.«zip.__next__» ⟨[.ref z],[]⟩) (fun fin s'=>∃v,fin=.done (.ret v)/\Q v s') E s:=by
 refine (.an (wpAny_field hz rfl rfl ?_) (field (.c z) 2 >>= _))
 refine (.an (wpAny_field hz rfl rfl ?_) (field (.c z) 3 >>= _))
 refine .f (wpAny_seqItems hI rfl ?_)
 refine (wpAny_bind ?_:wpAny _ _ _ _ _ _)
 refine .f (wpAny_field hz rfl rfl .b0)
 refine .f (wpAny_rule (.G (wpAny_field hz rfl rfl (wpAny_bind (wpAny_setField_rec hz .h fun ha l sa=>?_)))))
 replace l:IsZip ha z TI TO .ellipsis:=l
 refine wpAny_bind ?_
 refine .f (.G (wpAny_onRaise (?_:wpAny _ _ _ _ _ _)))
 refine .f (mE .fQ .f0 hx fun hb F N=>wpAny_pure ?_)
 have g:=N.extBut _ _ D.TOi1 (sa.extBut _ _ D.TOz hO)
 refine .f (wpAny_seqItems g rfl (.G (wpAny_updateSeq_pair g fun U r sc=>wpAny_bind (wpAny_letGo .b0))))
 replace r:IsPair U TO x b:=r
 refine .f (.G (wpAny_onRaise (?_:wpAny _ _ _ _ _ _)))
 refine .f (mE (h2.ext fun o e=>sc.extBut _ _ D.TOi2.symm (N.extBut _ _ D.i12.symm (sa.extBut _ _ D.i2z e))) (m.ext fun o e=>sc.extBut _ _ D.l2TO (N.extBut _ _ D.l2i1 (sa.extBut _ _ D.l2z e))) R fun hd kd d=>wpAny_pure ?_)
 have H:=d.extBut _ _ D.TOi2 r
 refine .f (wpAny_seqItems H rfl (.G (wpAny_updateSeq_pair H fun he h se=>wpAny_bind (wpAny_letGo (.aU .b0)))))
 replace h:IsPair he TO x y:=h
 refine .f (wpAny_seqItems h rfl (.G (wpAny_newTuple ?_)))
 have t:he.objs.size=s.heap.objs.size:=by rw [se.1,d.1,sc.1,N.1,sa.1]
 have I:=se.extBut _ _ D.TOz.symm (d.extBut _ _ D.i2z.symm (sc.extBut _ _ D.TOz.symm (N.extBut _ _ D.i1z.symm l)))
 have J:∀c o,c≠z->c≠TO->c≠i1->c≠i2->s.heap.get? c=some o->he.get? c=some o:=fun c o O V i G e=>se.extBut _ _ V (d.extBut _ _ G (sc.extBut _ _ V (N.extBut _ _ i (sa.extBut _ _ O e))))
 have q:=F.ext fun o e=>se.extBut _ _ D.TOi1.symm (d.extBut _ _ D.i12 (sc.extBut _ _ D.TOi1.symm e))
 have u:=kd.ext fun o e=>se.extBut _ _ D.TOi2.symm e
 have f:=Heap.lt_size I
 refine (wpAny_bind ?_:wpAny _ _ _ _ _ _)
 have K:IsZip (he.push { cls:=.type "tuple", data:=.seq #[x,y] }) z TI TO .ellipsis:=Heap.get?_push_of_some _ I
 refine .f (wpAny_setField_rec K .h fun M C sg=>?_)
 replace C:IsZip M z TI TO _:=C
 refine wpAny_setField_rec C .h fun S p sh=>?_
 replace p:IsZip S z TI TO _:=p
 have up:∀c o,c≠z->he.get? c=some o->S.get? c=some o:=fun c o n e=>sh.extBut _ _ n (sg.extBut _ _ n (.H e))
 have tp:=sh.extBut _ _ (za6 f) (sg.extBut _ _ (za6 f) (.aI rfl))
 rw [t] at p tp
 refine .ao ⟨_,rfl,(?_:Q _ _)⟩
 rw [t]
 exact B S p (up _ _ D.TOz h) (q.ext fun o e=>up _ o D.i1z e) (u.ext fun o e=>up _ o D.i2z e) tp fun c o O V i G e=>up c o O (J c o O V i G e)
theorem LN (S:A.handled=none)(D:.dZ)(hz:.gg)(hI:.eI)(hO:IsPair s.heap TO a b)
  (h1:gH c1 s.heap i1 l1 k) (h2:gH c2 s.heap i2 l2 k) (j:.g8) (m:.g7) (f:xs[k]? = none\/ys[k]? = none)
  (n:∀h' e,.a0->(∃o,h'.get? e=some o/\o.cls=.type "StopIteration")->E (.c e) { s with heap:=h' }):
  wpAny .Q A (Builtin.«zip.__next__» ⟨[.ref z],[]⟩) Q E s:=by
 refine (.an (wpAny_field hz rfl (x:=.bool false) rfl ?_) (field (.c z) 2 >>= _))
 refine (.an (wpAny_field hz rfl (x:=.ref TI) rfl ?_) (field (.c z) 3 >>= _))
 refine .f (wpAny_seqItems hI rfl ?_)
 refine (wpAny_bind ?_:wpAny _ _ (Builtin.SmallTypes.ownedTupleIsFree (.c z) >>= _) _ _ _)
 unfold Builtin.SmallTypes.ownedTupleIsFree
 refine .f (wpAny_field hz rfl (x:=.none) rfl .b0)
 simp only [if_true]
 refine .f (wpAny_rule (.G (wpAny_field hz rfl (x:=.ref TO) rfl (wpAny_bind (wpAny_setField_rec hz .h fun ha l sa=>?_)))))
 replace l:IsZip ha z TI TO .ellipsis:=l
 refine wpAny_bind ?_
 simp only [List.zipIdx_cons,List.zipIdx_nil,List.forIn_cons,List.forIn_nil]
 refine wpAny_bind (.G (wpAny_onRaise (?_:wpAny _ _ (Builtin.SmallTypes.nextOf (.c i1) >>= _) _ _ _)))
 cases hx:xs[k]? with
 |none =>
  refine .f (tK S .fQ .f0 hx fun hb e N p=>?_)
  obtain⟨oe,ho,U⟩:=p
  have C:IsZip hb z TI TO .ellipsis:=N _ _ D.i1z.symm l
  have ne:e≠z:=fun q=>by subst q;rw [C] at ho;cases ho;simp at U
  exact wpAny_setField_rec C .h fun hd _ d=>n hd e (fun c o O _ i _ q=>d.extBut _ _ O (N _ _ i (sa.extBut _ _ O q))) ⟨oe,d.extBut _ _ ne ho,U⟩
 |some x =>
  have R:ys[k]? = none:=by rcases f with h | h;rw [hx] at h;cases h;exact h
  refine .f (mE .fQ .f0 hx fun hb F N=>wpAny_pure ?_)
  have g:IsPair hb TO a b:=N.extBut _ _ D.TOi1 (sa.extBut _ _ D.TOz hO)
  refine .f (wpAny_seqItems g rfl (.G (wpAny_updateSeq_pair g fun U r sc=>wpAny_bind (wpAny_letGo .b0))))
  refine wpAny_bind (.G (wpAny_onRaise (?_:wpAny _ _ (Builtin.SmallTypes.nextOf (.c i2) >>= _) _ _ _)))
  refine .f (tK S (h2.ext fun o e=>sc.extBut _ _ D.TOi2.symm (N.extBut _ _ D.i12.symm (sa.extBut _ _ D.i2z e))) (m.ext fun o e=>sc.extBut _ _ D.l2TO (N.extBut _ _ D.l2i1 (sa.extBut _ _ D.l2z e))) R fun hd e d p=>?_)
  obtain⟨oe,ho,hk⟩:=p
  have t:IsZip hd z TI TO .ellipsis:=d _ _ D.i2z.symm (sc.extBut _ _ D.TOz.symm (N.extBut _ _ D.i1z.symm l))
  have ne:e≠z:=fun q=>by subst q;rw [t] at ho;cases ho;simp at hk
  exact wpAny_setField_rec t .h fun hf _ u=>n hf e (fun c o O V i G q=>u.extBut _ _ O (d _ _ G (sc.extBut _ _ V (N.extBut _ _ i (sa.extBut _ _ O q))))) ⟨oe,u.extBut _ _ ne ho,hk⟩
theorem zp {Q:Option Value->Shared->Prop}(D:.dZ)(hz:.gg)(hI:.eI)(hO:IsPair s.heap TO a b)
  (h1:gH c1 s.heap i1 l1 k) (h2:gH c2 s.heap i2 l2 k) (j:.g8) (m:.g7) (hx:xs[k]? = some x) (R:ys[k]? = some y)
  (B:∀h',IsZip h' z TI TO (rawInt s.heap.objs.size)->IsPair h' TO x y->gH c1 h' i1 l1 (k+1)->gH c2 h' i2 l2 (k+1)->IsPair h' s.heap.objs.size x y ->
   .a0->Q (some .a6) { s with heap:=h' }):wpAny .Q A (pyNext (.c z)) Q E s:=by
 have N:s.TypeIs (.c z) "zip" := ⟨_,hz,rfl⟩
 exact wpAny_bind (wpAny_attempt (wpAny_callSpecial?_slot N F.slot_zip_next (wpAny_call_entry F.slot_zip_next N F.entry_zip_next
  (JA D hz hI hO h1 h2 j m hx R fun h' a1 a2 a3 S g Z=>wpAny_pure (B h' a1 a2 a3 S g Z)) (F.args_zip_next_1 _))))
theorem Br {Q:Option Value->Shared->Prop}(S:A.handled=none)(D:.dZ)(hz:.gg)(hI:.eI)(hO:IsPair s.heap TO a b)
  (h1:gH c1 s.heap i1 l1 k) (h2:gH c2 s.heap i2 l2 k) (j:.g8) (m:.g7) (f:xs[k]? = none\/ys[k]? = none)
  (B:∀h',.a0->Q none { s with heap:=h' }):wpAny .Q A (pyNext (.c z)) Q E s:=by
 have N:s.TypeIs (.c z) "zip" := ⟨_,hz,rfl⟩
 unfold pyNext
 refine wpAny_bind (wpAny_attempt (wpAny_callSpecial?_slot (name:=Str.ofString "__next__") N F.slot_zip_next (wpAny_call_entry F.slot_zip_next N F.entry_zip_next
  (LN S D hz hI hO h1 h2 j m f fun h' e hk p=>?_) (F.args_zip_next_1 _))))
 obtain⟨o,ho,U⟩:=p
 exact .f (wpAny_isInstance (T := "StopIteration") (b:=true) ⟨o,ho,U⟩ isSubtype_stop (.aU (B _ hk)))
end
noncomputable def Cj (b:Bool)(l:Addr):Obj:=match b with
 |true=>{ cls:=.type "list_iterator", data:=.fields #[.ref l,.int 0 0] }
 |false=>{ cls:=.type "tuple_iterator", data:=.fields #[.ref l,.int 0 0] }
theorem DG {b:Bool}{l it:Addr}{h:Heap}(e:h.get? it=some (Cj b l)):gH b h it l 0:=by
 cases b with
 |true=>exact⟨_,e,rfl,rfl⟩
 |false=>exact⟨_,e,rfl,rfl⟩
abbrev RP (h:Heap)(c1:Bool)(l1:Addr):Heap:=h.push (Cj c1 l1)
abbrev RQ (h:Heap)(c1 c2:Bool)(l1 l2:Addr):Heap:=(RP h c1 l1).push (Cj c2 l2)
noncomputable abbrev RR (h:Heap)(c1 c2:Bool)(l1 l2:Addr):Heap:=(RQ h c1 c2 l1 l2).push { cls:=.type "tuple", data:=.seq #[.ref h.objs.size,.ref (RP h c1 l1).objs.size] }
noncomputable abbrev RS (h:Heap)(c1 c2:Bool)(l1 l2:Addr):Heap:=(RR h c1 c2 l1 l2).push { cls:=.type "tuple", data:=.seq #[.none,.none] }
noncomputable abbrev OP (h:Heap)(c1 c2:Bool)(l1 l2:Addr):Heap:=(RS h c1 c2 l1 l2).push { cls:=.type "zip", data:=.fields #[.none,.bool false,.bool false,.ref (RQ h c1 c2 l1 l2).objs.size,.ref (RR h c1 c2 l1 l2).objs.size] }
noncomputable abbrev Gz (c1 c2:Bool)(l1 l2:Addr)(xs ys:.cv):Prop:=Meets (Builtin.«zip.__new__» ⟨[.type "zip", .ref l1,.ref l2],[]⟩) (fun _ R s=>kr c1 s.heap l1 xs/\kr c2 s.heap l2 ys /\
   R (.ok (.ret (.ref (RS s.heap c1 c2 l1 l2).objs.size))) { s with heap:=OP s.heap c1 c2 l1 l2 })
theorem C0 (l1 l2:Addr)(xs ys:.cv):Gz true true l1 l2 xs ys:=.of_wp fun prog w A R s h=>by
 obtain⟨hp,g,d,tk,os⟩:=s
 obtain⟨q1,q2,h⟩:=h
 have hsub:=sub_zip
 have p1:Heap.IsList .eG l1 xs:=q1
 have p2:Heap.IsList (Shared.heap ⟨hp.push { cls:=.type "list_iterator", data:=.fields #[.ref l1,.int 0 0] },g,d,tk,os⟩) l2 ys:=Heap.IsList.push q2 _
 wp_walk using wpAny_pyIter_list p1,wpAny_pyIter_list p2
 exact⟨_,rfl,h⟩
theorem CZ (l1 l2:Addr)(xs ys:.cv):Gz true false l1 l2 xs ys:=.of_wp fun prog w A R s h=>by
 obtain⟨hp,g,d,tk,os⟩:=s
 obtain⟨q1,q2,h⟩:=h
 have hsub:=sub_zip
 have p1:Heap.IsList .eG l1 xs:=q1
 have p2:Heap.IsTuple (Shared.heap ⟨hp.push { cls:=.type "list_iterator", data:=.fields #[.ref l1,.int 0 0] },g,d,tk,os⟩) l2 ys:=Heap.IsTuple.push q2 _
 wp_walk using wpAny_pyIter_list p1,wpAny_pyIter_tuple p2
 exact⟨_,rfl,h⟩
theorem CY (l1 l2:Addr)(xs ys:.cv):Gz false true l1 l2 xs ys:=.of_wp fun prog w A R s h=>by
 obtain⟨hp,g,d,tk,os⟩:=s
 obtain⟨q1,q2,h⟩:=h
 have hsub:=sub_zip
 have p1:Heap.IsTuple .eG l1 xs:=q1
 have p2:Heap.IsList (Shared.heap ⟨hp.push { cls:=.type "tuple_iterator", data:=.fields #[.ref l1,.int 0 0] },g,d,tk,os⟩) l2 ys:=Heap.IsList.push q2 _
 wp_walk using wpAny_pyIter_tuple p1,wpAny_pyIter_list p2
 exact⟨_,rfl,h⟩
theorem CW (l1 l2:Addr)(xs ys:.cv):Gz false false l1 l2 xs ys:=.of_wp fun prog w A R s h=>by
 obtain⟨hp,g,d,tk,os⟩:=s
 obtain⟨q1,q2,h⟩:=h
 have hsub:=sub_zip
 have p1:Heap.IsTuple .eG l1 xs:=q1
 have p2:Heap.IsTuple (Shared.heap ⟨hp.push { cls:=.type "tuple_iterator", data:=.fields #[.ref l1,.int 0 0] },g,d,tk,os⟩) l2 ys:=Heap.IsTuple.push q2 _
 wp_walk using wpAny_pyIter_tuple p1,wpAny_pyIter_tuple p2
 exact⟨_,rfl,h⟩
theorem vP (c1 c2:Bool)(l1 l2:Addr)(xs ys:.cv):Gz c1 c2 l1 l2 xs ys:=by
 cases c1<;>cases c2
 ·exact CW l1 l2 xs ys
 ·exact CY l1 l2 xs ys
 ·exact CZ l1 l2 xs ys
 ·exact C0 l1 l2 xs ys
section
variable {prog:.ah}{w:World}{A:Around}{E:.o}{s:Shared}
theorem GK {c1 c2:Bool}{Q:.o}(q1:.g8)(q2:.g7)
  (h:∀h',IsZip h' (s.heap.objs.size+4) .da (s.heap.objs.size+3) .none->IsPair h' .da .a6 (.c .a3) ->
   IsPair h' (s.heap.objs.size+3) .none .none->gH c1 h' s.heap.objs.size l1 0->gH c2 h' .a3 l2 0->(∀c o,s.heap.get? c=some o->h'.get? c=some o)->Q (.c (s.heap.objs.size+4)) { s with heap:=h' }):
  wpAny .Q A (call (.type "zip") [.ref l1,.ref l2]) Q E s:=by
 refine callType_new F.called_zip .f (F.typeCall_zip_2 _ _) (F.newCall_zip_2 _ _) (fun obj=>F.args_object_init_3 obj _ _) F.entry_zip_new (vP c1 c2 l1 l2 xs ys) ⟨q1,q2,?_⟩
 have f:(RP s.heap c1 l1).objs.size=s.heap.objs.size+1:=.hM
 have R:(RQ s.heap c1 c2 l1 l2).objs.size=s.heap.objs.size+2:=by rw [Heap.size_push,f]
 have D:(RR s.heap c1 c2 l1 l2).objs.size=s.heap.objs.size+3:=by rw [Heap.size_push,R]
 have j:(RS s.heap c1 c2 l1 l2).objs.size=s.heap.objs.size+4:=by rw [Heap.size_push,D]
 have p:∀{h:Heap} {o:Obj} {c:Addr} {u:Obj},h.get? c=some u->(h.push o).get? c=some u:=fun e=>Heap.get?_push_of_some _ e
 have O:(Cj c1 l1).isFreed=false:=by cases c1<;>rfl
 have V:(Cj c2 l2).isFreed=false:=by cases c2<;>rfl
 have Y:(OP s.heap c1 c2 l1 l2).get? (RS s.heap c1 c2 l1 l2).objs.size=some _:=.ac
 have C:(OP s.heap c1 c2 l1 l2).get? (RR s.heap c1 c2 l1 l2).objs.size=some _:=p (.aI rfl)
 have g3:(OP s.heap c1 c2 l1 l2).get? (RQ s.heap c1 c2 l1 l2).objs.size=some _:=p (p (.aI rfl))
 have g2:(OP s.heap c1 c2 l1 l2).get? (RP s.heap c1 l1).objs.size=some (Cj c2 l2):=p (p (p (.aI V)))
 have g1:(OP s.heap c1 c2 l1 l2).get? s.heap.objs.size=some (Cj c1 l1):=p (p (p (p (.aI O))))
 show _/\_
 rw [R,D,j] at Y
 rw [f,R] at g3
 rw [D] at C
 rw [f] at g2
 rw [j]
 exact⟨⟨_,Y,rfl⟩,h _ Y g3 C (DG g1) (DG g2) fun c o x=>p (p (p (p (p x))))⟩
end
noncomputable def zB (b:Bool)(K:.l)(H:Hp)(a:Addr)(xs:List V):Prop:=match b with
 |true=>gE K H a xs
 |false=>nv K H a xs
noncomputable def R1 (K:.l)(c1 c2:Bool)(l1 l2:Addr):It:=
  ⟨fun i H=>∃xs ys x y,zB c1 K H l1 xs/\zB c2 K H l2 ys/\xs[i]? = some x/\ys[i]? = some y,
   fun i H v H'=>∃p x y,v=.ref p/\H p=none/\H'=upd H p (.tup [x,y])/\(∀xs,zB c1 K H l1 xs->xs[i]? = some x)/\∀ys,zB c2 K H l2 ys->ys[i]? = some y,
   fun i H=>∃xs ys,zB c1 K H l1 xs/\zB c2 K H l2 ys/\(xs.length≤i\/ys.length≤i)⟩
section
variable {X:Cx}{pins:.v}{σ:L2.St}{H:Hp}{s:Shared}
theorem lF {b:Bool}(I:.u)(h:zB b X.K H a xs):∃G:List Value,Vals xs G/\kr b s.heap a G.toArray:=by
 cases b with
 |true=>obtain⟨G,r,p,_⟩:=I.list h;exact⟨G,r,p.isList⟩
 |false=>obtain⟨G,r,p,_⟩:=I.tuple h;exact⟨G,r,p⟩
theorem Ek {b:Bool}(I:.u)(h:zB b X.K H a xs)(h':zB b X.K H a ys):xs=ys:=by
 cases b with
 |true=>exact I.list_inj h h'
 |false=>exact I.tuple_inj h h'
end
structure T7 (c1 c2:Bool)(z TI TO i1 i2 l1 l2:Addr)(i:Nat)(h:Heap):Prop where
 hz:IsZip h z TI TO .none
 hI:IsPair h TI (.c i1) (.c i2)
 hO:∃a b,IsPair h TO a b
 h1:gH c1 h i1 l1 i
 h2:gH c2 h i2 l2 i
theorem uC {h':Heap}{fp:.af}(I:.u)(hf:∀b∈fp,si X pins H b)(k:∀b o,b∉fp->s.heap.get? b=some o->h'.get? b=some o):Inv X pins σ H { s with heap:=h' }:=by
 have a:∀b u,H b=some u->b∉fp:=fun b u e z=>by rw [(hf b z).1] at e;cases e
 refine I.step (fun b hb=>?_) (fun b o _ _ U e _=>k b o U e) (fun b o _ _ U e _=>⟨o.slots,k b o U e⟩) (fun _ _ _ _ n=>n)
  (fun b o U e=>⟨o,k b o U e⟩) (fun _ _ e=>e) (fun _ _ _ e=>e) (fun b ps e=>⟨#[],by rw [e];simp⟩) (fun m hm=>?_) (fun b u e=>?_) I.bare
 ·obtain⟨_,f1,_,T,f4,F⟩:=hf b hb
  exact⟨T,f1,f4,F⟩
 ·obtain⟨o,es,ep,ho,r⟩:=hm
  exact⟨o,es,ep,k _ o (fun z=>(hf _ z).2.1 rfl) ho,r⟩
 ·refine (I.hok b u e).stay (fun c v U q=>k c v ?_ q) (fun _ q=>q) fun _ _ q=>q
  rcases U with z | z
  ·rw [z];exact a b u e
  ·exact a c _ z
theorem Ju {P:.ah}{w:World}{K:.l}{elts:.av}{kx:Nat}{px:Pos}{c1 c2:Bool}{z TI TO i1 i2 l1 l2:Addr}(D:.dZ):
  Turn P w K .eb (R1 K c1 c2 l1 l2) [z,TI,TO,i1,i2] z (T7 c1 c2 z TI TO i1 i2 l1 l2) where
 mem:=.h
 obj:=fun i h st b hb=>by
  simp only [List.mem_cons,List.not_mem_nil,or_false] at hb
  rcases hb with rfl | rfl | rfl | rfl | rfl
  ·exact⟨_,st.hz,fun v q=>nomatch (show Data.fields _=Data.cell v from q)⟩
  ·exact⟨_,st.hI,fun v q=>nomatch (show Data.seq _ _=Data.cell v from q)⟩
  ·obtain⟨a,b,e⟩:=st.hO
   exact⟨_,e,fun v q=>nomatch (show Data.seq _ _=Data.cell v from q)⟩
  ·exact st.h1.obj
  ·exact st.h2.obj
 keep:=fun i h h' st k=>by
  obtain⟨a,b,e⟩:=st.hO
  exact⟨k z .h _ st.hz,k TI .h _ st.hI,⟨a,b,k TO .h _ e⟩,st.h1.ext fun o e=>k i1 .h o e,st.h2.ext fun o e=>k i2 .h o e⟩
 item:=fun X j L Y U i pins s σ H E I hf st M=>by
  subst j L Y
  obtain⟨xs,ys,x,y,q1,q2,g1,g2⟩:=M
  obtain⟨G,r1,p1⟩:=lF I q1
  obtain⟨A,r2,p2⟩:=lF I q2
  obtain⟨u,e1,W⟩:=r1.get g1
  obtain⟨v,e2,f⟩:=r2.get g2
  obtain⟨a,b,hO⟩:=st.hO
  refine zp D st.hz st.hI hO st.h1 st.h2 p1 p2 (x:=u) (y:=v) (by simpa using e1) (by simpa using e2) fun h' a1 a2 a3 S p Z=>⟨_,rfl,?_⟩
  refine wpAny_letOwnedTupleGo_zip (s:={ s with heap:=h' }) a1 fun h2 b1 b2=>?_
  have kp:∀b o,b∉[z,TI,TO,i1,i2]->s.heap.get? b=some o->h2.get? b=some o:=fun b o hb e=>by
   simp only [List.mem_cons,List.not_mem_nil,or_false,not_or] at hb
   exact b2.extBut _ _ hb.1 (Z b o hb.1 hb.2.2.1 hb.2.2.2.1 hb.2.2.2.2 e)
  have N:z<s.heap.objs.size:=Heap.lt_size st.hz
  have pr:IsPair h2 s.heap.objs.size u v:=b2.extBut _ _ (za6 N) p
  have fr:H s.heap.objs.size=none:=I.hok.fresh .b8
  have t:lW X.prog X.w (.O (.tup [x,y])) h2:=by
   intro c o e
   by_cases B:c=s.heap.objs.size
   ·subst B
    rw [aM] at e;cases e
    exact⟨by show 2≤sizeLine;decide,[u,v],.cons W (.ar f),_,pr,rfl,_,rfl⟩
   ·rw [ay B] at e
    have C:∀d o',H d=some o'->d∉[z,TI,TO,i1,i2]:=fun d o' R hd=>by rw [(hf d hd).1] at R;cases R
    have up:∀d o',H d=some o'->upd H s.heap.objs.size (.tup [x,y]) d=some o':=fun d o' R=>by rw [ay (bp R fr)];exact R
    refine (I.hok c o e).stay (fun d v' hd q=>kp d v' ?_ q) (fun d q=>up d _ q) fun d xs q=>up d _ q
    rcases hd with rfl | hd
    ·exact C _ o e
    ·exact C d _ hd
  have J:Inv X pins σ (.O (.tup [x,y])) { s with heap:=h2 }:=by
   have ne:∀b o,s.heap.get? b=some o->b≠s.heap.objs.size:=fun b o e=>zat .aF
   refine I.step (g':=s.gens) (d':=s.drawn) (t':=s.toks) (ch:=[z,TI,TO,i1,i2]) (fun b hb=>?_) .hA .eS (fun b o _ e n=>by rw [ay (ne b o e)];exact n)
    .gW (fun b xs e=>by rw [ay (bp e fr)];exact e) (fun b o u e=>by rw [ay (bp e fr)];exact e) (fun b ps e=>⟨#[],by rw [ay (bp e fr),e];simp⟩) (fun m hm=>?_) t I.bare
   ·obtain⟨_,f1,_,T,f4,F⟩:=hf b hb
    exact⟨T,f1,f4,F⟩
   ·obtain⟨o,es,ep,ho,r⟩:=hm
    exact⟨o,es,ep,kp _ o (fun q=>(hf _ q).2.1 rfl) ho,r⟩
  refine⟨.ref s.heap.objs.size,_,J,rfl,⟨_,x,y,rfl,fr,rfl,fun l h=>by rw [Ek I h q1];exact g1,fun ys' h=>by rw [Ek I h q2];exact g2⟩,?_,fun b hb=>?_⟩
  ·exact⟨b1,b2.extBut _ _ D.TIz (Z _ _ D.TIz D.TITO D.TIi1 D.TIi2 st.hI),⟨_,_,b2.extBut _ _ D.TOz a2⟩,a3.ext fun o e=>b2.extBut _ _ D.i1z e,S.ext fun o e=>b2.extBut _ _ D.i2z e⟩
  ·obtain⟨o,e,_⟩:∃o,s.heap.get? b=some o/\True:=by
    simp only [List.mem_cons,List.not_mem_nil,or_false] at hb
    rcases hb with rfl | rfl | rfl | rfl | rfl
    ·exact⟨_,st.hz,trivial⟩
    ·exact⟨_,st.hI,trivial⟩
    ·exact⟨_,hO,trivial⟩
    ·obtain⟨o,e,_⟩:=st.h1.obj;exact⟨o,e,trivial⟩
    ·obtain⟨o,e,_⟩:=st.h2.obj;exact⟨o,e,trivial⟩
   rw [ay (zat .aF)]
   exact (hf b hb).1
 done:=fun X j L Y U i pins s σ H E I hf st M=>by
  subst j L Y
  obtain⟨xs,ys,q1,q2,g⟩:=M
  obtain⟨G,r1,p1⟩:=lF I q1
  obtain⟨A,r2,p2⟩:=lF I q2
  obtain⟨a,b,hO⟩:=st.hO
  have O:=r1.length
  have V:=r2.length
  refine Br .cX D st.hz st.hI hO st.h1 st.h2 p1 p2 ?_ fun h' k=>⟨rfl,uC I hf fun b o hb e=>?_⟩
  ·rcases g with g | g
   ·exact .inl .j
   ·exact .inr .j
  ·simp only [List.mem_cons,List.not_mem_nil,or_false,not_or] at hb
   exact k b o hb.1 hb.2.2.1 hb.2.2.2.1 hb.2.2.2.2 e
 self:=fun _ _ _ _ _ st h=>wpAny_pyIter_zip st.hz h
noncomputable def QI:T->Option (Bool×List T)
 | .lst ts=>some (true,ts)
 | .scr ts=>some (true,ts)
 | .tup ts=>some (false,ts)
 |_=>none
theorem Ej {K:.l}{F:Hp}{t:T}{v:V}{b:Bool}{ts:List T}(r:.fW)(e:QI t=some (b,ts)):∃a xs,v=.ref a/\zB b K F a xs/\aU K F ts xs:=by
 cases t<;>simp only [QI] at e<;>cases e
 ·exact r
 ·obtain⟨a,xs,h1,h2,W⟩:=r
  exact⟨a,xs,h1,gE.of h2,W⟩
 ·exact r
theorem zB.same {b:Bool}{K:.l}{H H':Hp}{a:Addr}{xs:List V}(s:aW H H')(h:zB b K H a xs):zB b K H' a xs:=by
 cases b with
 |true=>exact s.seq h
 |false=>exact cw s h
def jf:List T->List T->List T
 |x::xs,y::ys=>.tup [x,y]::jf xs ys
 |_,_=>[]
theorem qN:∀(xs ys:List T),(jf xs ys).length=min xs.length ys.length
 |[],_=>by simp [jf]
 |_::_,[]=>by simp [jf]
 |x::xs,y::ys=>by simp [jf,qN xs ys]
theorem uK:∀(xs ys:List T) (i:Nat) (t:T),(jf xs ys)[i]? = some t->∃x y,xs[i]? = some x/\ys[i]? = some y/\t=.tup [x,y]
 |[],_,i,t,e=>by simp [jf] at e
 |_::_,[],i,t,e=>by simp [jf] at e
 |x::xs,y::ys,0,t,e=>by simp [jf] at e;exact⟨x,y,rfl,rfl,e.symm⟩
 |x::xs,y::ys,i+1,t,e=>by
  obtain⟨a,b,h1,h2,W⟩:=uK xs ys i t (by simpa [jf] using e)
  exact⟨a,b,by simpa using h1,by simpa using h2,W⟩
theorem Gh {K:.l}{F:Hp}{c1 c2:Bool}{l1 l2:Addr}{xs ys:List V}{ts us:List T}(h1:zB c1 K F l1 xs)(r1:aU K F ts xs)(h2:zB c2 K F l2 ys)(r2:aU K F us ys):Walks K F (jf ts us) (R1 K c1 c2 l1 l2):=by
 refine⟨fun i t F1 H1 e s1 s2=>?_,fun i t F1 H1 x H2 e s1 s2 y=>?_,fun F1 H1 s1 s2=>⟨xs,ys,h1.same .a8,h2.same .a8,?_⟩⟩
 ·obtain⟨a,b,e1,e2,rfl⟩:=uK ts us i t e
  obtain⟨v,g1,_⟩:=r1.get e1
  obtain⟨w,g2,_⟩:=r2.get e2
  exact⟨xs,ys,v,w,h1.same .a8,h2.same .a8,g1,g2⟩
 ·obtain⟨p,v,w,rfl,hp,rfl,q1,q2⟩:=y
  obtain⟨a,b,e1,e2,rfl⟩:=uK ts us i t e
  obtain⟨v',g1,k1⟩:=r1.get e1
  obtain⟨D,g2,k2⟩:=r2.get e2
  have g:=q1 xs (h1.same .a8)
  have P:=q2 ys (h2.same .a8)
  rw [g1] at g;cases g
  rw [g2] at P;cases P
  have A:=bj.new (.tup [v,w]) s2 hp
  exact⟨_,A,p,_,rfl,nv.of aM,v,[w],rfl,Rep.mono .gT k1,w,[],rfl,Rep.mono .gT k2,rfl⟩
 ·rw [qN,r1.length,r2.length]
  omega
noncomputable def hV (g:FA):FA:=fun τ=>(g τ).bind fun p=>match p.1 with
 |[a,b]=>(QI a).bind fun x=>(QI b).bind fun y=>some (jf x.2 y.2,p.2)
 |_=>none
theorem qp {X:Cx}{a b:Expr}{p pos:Pos}{ga:FA}{elts:.av}{kx:Nat}{px:Pos}(M:Gl X "zip")(hm:X.mg "zip" = none)(ha:SA X [a,b] ga)(hs:starEach [a,b] X.env=(.m a)::starEach [b] X.env:=by rfl)
  (n:(backTo pos (starEach [b] X.env)).any (·.1)=false:=by rfl):SI X .eb (.Call (.Name "zip" p) [a,b] [] pos) (hV ga):=by
 intro Y0 Y9 pins s σ H R I ⟨F,τ,ts,τ',E,e1,q⟩
 obtain⟨⟨x,τ1⟩,e2,e1⟩:=bind_some e1
 dsimp only at e1
 split at e1
 ·next t u =>
  obtain⟨⟨c1,us⟩,e3,e1⟩:=bind_some e1
  obtain⟨⟨c2,ws⟩,e4,e1⟩:=bind_some e1
  cases e1
  refine Call_ (my I M hm (show bootBuiltins "zip" = some (.type "zip") from rfl) (zaN (.J (fun vs H'=>∃l1 l2 xs ys,vs=[.ref l1,.ref l2]/\zB c1 X.K H' l1 xs/\zB c2 X.K H' l2 ys/\R (R1 X.K c1 c2 l1 l2) H')) hs n))
  ·obtain⟨v1,r1,rfl,k1,v2,r2,rfl,k2,rfl⟩:=B
   obtain⟨l1,xs,rfl,h1,h2⟩:=Ej k1 e3
   obtain⟨l2,ys,rfl,W,N⟩:=Ej k2 e4
   exact⟨l1,l2,xs,ys,rfl,h1.same Z.g.fh,W.same Z.g.fh,q F' H' _ Z s' (Gh h1 h2 W N)⟩
  ·obtain⟨l1,l2,xs,ys,rfl,h1,h2,q1⟩:=q1
   cases r1 with
   |cons m w =>
    cases w with
    |cons D w =>
     cases w;cases m;cases D
     obtain⟨G,_,p1⟩:=lF O h1
     obtain⟨A,_,p2⟩:=lF O h2
     refine GK p1 p2 fun h' a1 a2 a3 S g kp=>wpAny_pyIter_zip (s:={ s1 with heap:=h' }) a1 ?_
     have lt:∀{c:Bool} {l:Addr} {zs:.cv},kr c s1.heap l zs->l<s1.heap.objs.size:=fun {c l zs} h=>by
      cases c with
      |true=>obtain⟨o,e,_⟩:=h;exact Heap.lt_size e
      |false=>obtain⟨o,e,_⟩:=h;exact Heap.lt_size e
     have d:@LT.lt Nat _ l1 s1.heap.objs.size:=lt p1
     have V:@LT.lt Nat _ l2 s1.heap.objs.size:=lt p2
     have J:Inv X pins σ H1 { s1 with heap:=h' }:=O.kept (t':=s1.toks) kp
     refine⟨_,[_,_,_,_,_],_,_,H1,rfl,J,Ju (c1:=c1) (c2:=c2) (z:=s1.heap.objs.size+4) (TI:=s1.heap.objs.size+2) (TO:=s1.heap.objs.size+3) (i1:=s1.heap.objs.size) (i2:=s1.heap.objs.size+1) (l1:=l1) (l2:=l2) ?_,⟨a1,a2,⟨_,_,a3⟩,S,g⟩,fun b hb=>?_,q1⟩
     ·constructor<;>(refine (?_:@Ne Nat _ _);omega)
     ·have y:s1.heap.objs.size≤b:=by
       simp only [List.mem_cons,List.not_mem_nil,or_false] at hb
       rcases hb with rfl | rfl | rfl | rfl | rfl<;>omega
      exact .ak y
 ·cases e1
theorem Am:bV [.non,.ty "int"]=some .U:=rfl
theorem yk:bV [.non,.ty "bool"]=some .U:=rfl
theorem An:bV [.non,.ty "str"]=some .U:=rfl
theorem ym:bV [.non,.hP]=some .U:=rfl
theorem vd:bV [.non,.hN]=some .U:=rfl
theorem yl:bV [.non,.ty "dict"]=some .U:=rfl
theorem Ce:bV [.non,.bz]=some .U:=rfl
theorem B9 {b:Bool}:bV [(.bl b),.ty "int"]=some .b4:=rfl
theorem Ac {b:Bool}:bV [(.bl b),.ty "bool"]=some .b4:=rfl
theorem Ca {b:Bool}:bV [(.bl b),.ty "str"]=some .U:=rfl
theorem Ae {b:Bool}:bV [(.bl b),.hP]=some .U:=rfl
theorem xY {b:Bool}:bV [(.bl b),.hN]=some .U:=rfl
theorem Ad {b:Bool}:bV [(.bl b),.ty "dict"]=some .U:=rfl
theorem Fo {b:Bool}:bV [(.bl b),.bz]=some .U:=rfl
theorem Ah {i:Int}:bV [.eA,.ty "int"]=some .b4:=rfl
theorem ye {i:Int}:bV [.eA,.ty "bool"]=some .U:=rfl
theorem Ai {i:Int}:bV [.eA,.ty "str"]=some .U:=rfl
theorem yg {i:Int}:bV [.eA,.hP]=some .U:=rfl
theorem vb {i:Int}:bV [.eA,.hN]=some .U:=rfl
theorem yf {i:Int}:bV [.eA,.ty "dict"]=some .U:=rfl
theorem Cc {i:Int}:bV [.eA,.bz]=some .U:=rfl
theorem Aq:bV [.fG,.ty "int"]=some .U:=rfl
theorem yr:bV [.fG,.ty "bool"]=some .U:=rfl
theorem Ar:bV [.fG,.ty "str"]=some .b4:=rfl
theorem yu:bV [.fG,.hP]=some .U:=rfl
theorem vf:bV [.fG,.hN]=some .U:=rfl
theorem yt:bV [.fG,.ty "dict"]=some .U:=rfl
theorem Cg:bV [.fG,.bz]=some .U:=rfl
theorem Au:bV [(.tup ts),.ty "int"]=some .U:=rfl
theorem yw:bV [(.tup ts),.ty "bool"]=some .U:=rfl
theorem Av:bV [(.tup ts),.ty "str"]=some .U:=rfl
theorem yy:bV [(.tup ts),.hP]=some .U:=rfl
theorem vg:bV [(.tup ts),.hN]=some .b4:=rfl
theorem yx:bV [(.tup ts),.ty "dict"]=some .U:=rfl
theorem Ci:bV [(.tup ts),.bz]=some .b4:=rfl
theorem Aj:bV [.dn,.ty "int"]=some .U:=rfl
theorem yh:bV [.dn,.ty "bool"]=some .U:=rfl
theorem Ak:bV [.dn,.ty "str"]=some .U:=rfl
theorem yj:bV [.dn,.hP]=some .b4:=rfl
theorem vc:bV [.dn,.hN]=some .U:=rfl
theorem yi:bV [.dn,.ty "dict"]=some .U:=rfl
theorem Cd:bV [.dn,.bz]=some .b4:=rfl
theorem Ao:bV [(.scr ts),.ty "int"]=some .U:=rfl
theorem yo:bV [(.scr ts),.ty "bool"]=some .U:=rfl
theorem Ap:bV [(.scr ts),.ty "str"]=some .U:=rfl
theorem yq:bV [(.scr ts),.hP]=some .b4:=rfl
theorem ve:bV [(.scr ts),.hN]=some .U:=rfl
theorem yp:bV [(.scr ts),.ty "dict"]=some .U:=rfl
theorem Cf:bV [(.scr ts),.bz]=some .b4:=rfl
theorem Af:bV [.dic,.ty "int"]=some .U:=rfl
theorem xZ:bV [.dic,.ty "bool"]=some .U:=rfl
theorem Ag:bV [.dic,.ty "str"]=some .U:=rfl
theorem yd:bV [.dic,.hP]=some .U:=rfl
theorem va:bV [.dic,.hN]=some .U:=rfl
theorem yc:bV [.dic,.ty "dict"]=some .b4:=rfl
theorem Cb:bV [.dic,.bz]=some .U:=rfl
theorem gW (i j:Int):il .eA (.af j)=some (.aA (i=j)):=by
 show some (T.bl (i == j))=_
 rw [zbv]
theorem J9 (i j:Int):xS .eA (.af j)=some (.bl (!decide (i=j))):=by
 show some (T.bl (!(i == j)))=_
 rw [zbv]
theorem MW (i j:Bool):il (.bl i) (.bl j)=some (.bl (i == j)):=rfl
theorem MY (i j:Bool):xS (.bl i) (.bl j)=some (.bl (!(i == j))):=rfl
theorem EB (i j:Int):vQ i j ↔ (¬ j=0/\j.natAbs<B):=Iff.rfl
theorem EC (i j:Int):C1 i j ↔ (i.natAbs<B/\j.natAbs<B):=Iff.rfl
theorem JF (i j:Int):Q4 i j ↔ ¬ j=0:=Iff.rfl
theorem aR {n:Nat}(h:n≤1000):n≤sizeLine:=zb5 (bN h)
theorem Uk:(0:Nat)≤sizeLine:=aR .f
theorem Ul:(1:Nat)≤sizeLine:=aR .f
theorem TF:(2:Nat)≤sizeLine:=aR .f
theorem TH:(3:Nat)≤sizeLine:=aR .f
theorem Um:(4:Nat)≤sizeLine:=aR .f
theorem Hn {x y:T}:br (.tup [x,y]) (.af 0)=some x:=rfl
theorem Ho {x y:T}:br (.tup [x,y]) (.af 1)=some y:=rfl
theorem Hl {x y:T}:br (.lst [x,y]) (.af 0)=some x:=rfl
theorem Hm {x y:T}:br (.lst [x,y]) (.af 1)=some y:=rfl
theorem sM (a:Int):sL [.int a]=some (.af (a.natAbs:Int)):=by
 have e:(if a<0 then -a else a)=(a.natAbs:Int):=by split<;>omega
 simp only [sL,e]
theorem nU:(2^64:Nat)<B:=.c
theorem zT (a:Int){b:Int}(h:0<b):0≤a.fmod b/\a.fmod b<b:=⟨Int.fmod_nonneg_of_pos _ h,Int.fmod_lt_of_pos _ h⟩
theorem Kp {ns:.eg}{k:Int}(h0:0≤k)(h1:k<(ns.length:Int)):br (.scr (ns.map T.int)) (.af k)=some (.af (ns.getD k.toNat 0)):=by
 obtain⟨j,rfl⟩:=Int.eq_ofNat_of_zero_le h0
 have hk:j<ns.length:=.e
 refine rB ?_
 simp [List.getElem?_eq_getElem hk]
noncomputable def pL (env:Env):List (Str×NameKind)->List (Str×Addr)->List (Str×Addr)
 |[],acc=>acc
 |(x,k)::r,acc=>if k == .free then pL env r ((x,(env.cells.lookup x).getD 0)::acc) else pL env r acc
theorem qB (f:Str×NameKind->List (Str×Addr)->Sem (ForInStep (List (Str×Addr))))(hf:∀x k cs,f (x,k) cs=if k == .free then (do let a <- cellOf env x;pure (.yield ((x,a)::cs))) else pure (.yield cs)):
  ∀(names:.cO) (acc:.dh),(∀y∈names,y.2=.free->∃c,env.cells.lookup y.1=some c)->forIn names acc f=pure (pL env names acc)
 |[],acc,_=>by rw [List.forIn_nil];rfl
 |(x,k)::r,acc,R=>by
  rw [List.forIn_cons,hf]
  have A:=qB f hf r
  have hr:=fun z hz=>R z (.aT hz)
  cases hk:(k == NameKind.free) with
  |true =>
   obtain⟨c,U⟩:=R (x,k) zad (beq_iff_eq.mp hk)
   simp only [pL,U,cellOf,hk]
   exact A _ hr
  |false =>
   simp only [if_false,pL,hk]
   exact A _ hr
theorem iW {env:Env}{scope:Scope}(h:∀y∈scope.names,y.2=.free->∃c,env.cells.lookup y.1=some c):closureFor scope env=pure (pL env scope.names []):=by
 simp only [closureFor]
 rw [qB _ (fun x k cs=>by cases hk:k == NameKind.free<;>simp [hk]) scope.names [] h]
 rfl
theorem xB {env:Env}:∀(names:.cO) (acc:.dh) (x:Str) (c:Addr),(∀y∈names,y.2=.free->∃c,env.cells.lookup y.1=some c)->(x,c)∈pL env names acc->(x,c)∈acc\/(env.cells.lookup x=some c/\(x,NameKind.free)∈names)
 |[],acc,x,c,_,h=>.inl h
 |(y,k)::r,acc,x,c,R,h=>by
  unfold pL at h
  have hr:=fun z hz=>R z (.aT hz)
  cases hk:(k == NameKind.free) with
  |true =>
   rw [if_pos hk] at h
   rcases xB r _ x c hr h with h | h
   ·rcases zao.mp h with h | h
    ·cases h
     obtain⟨c,U⟩:=R (y,k) zad (beq_iff_eq.mp hk)
     refine .inr ⟨by rw [U];rfl,?_⟩
     rw [beq_iff_eq.mp hk]
     exact zad
    ·exact .inl h
   ·exact .bg ⟨h.1,zae _ h.2⟩
  |false =>
   rw [if_neg (by rw [hk];decide)] at h
   rcases xB r _ x c hr h with h | h
   ·exact .inl h
   ·exact .bg ⟨h.1,zae _ h.2⟩
theorem fY:∀{l:.dh} {x:Str} {c:Addr},(x,c)∈l->∃d,l.lookup x=some d
 |(y,d)::r,x,c,h=>by
  rw [zbh]
  cases hb:x == y with
  |true=>exact⟨d,rfl⟩
  |false =>
   rcases zao.mp h with h | h
   ·cases h;simp at hb
   ·exact fY h
theorem rD:∀(names:.cO) (acc:.dh) (x:Str),((x,NameKind.free)∈names\/∃c,(x,c)∈acc)->∃c,(x,c)∈pL env names acc
 |[],acc,x,h=>by
  rcases h with h | h
  ·cases h
  ·exact h
 |(y,k)::r,acc,x,h=>by
  unfold pL
  cases hk:(k == NameKind.free) with
  |true =>
   refine rD r _ x ?_
   rcases h with h | ⟨c,h⟩
   ·rcases zao.mp h with h | h
    ·cases h;exact .inr ⟨_,zad⟩
    ·exact .inl h
   ·exact .bg ⟨c,zae _ h⟩
  |false =>
   refine rD r _ x ?_
   rcases h with h | h
   ·rcases zao.mp h with h | h
    ·cases h;cases hk
    ·exact .inl h
   ·exact .inr h
theorem BG:∀(names:.cO) (n:Nat) (acc:.dh) (x:Str) (c:Addr),(x,c)∈cellsFrom n names acc->(x,c)∈acc\/(n≤c/\(x,NameKind.cell)∈names)
 |[],n,acc,x,c,h=>.inl h
 |(y,k)::r,n,acc,x,c,h=>by
  unfold cellsFrom at h
  cases hk:(k == NameKind.cell) with
  |true =>
   rw [if_pos hk] at h
   rcases BG r _ _ x c h with h | ⟨h1,h2⟩
   ·rcases zao.mp h with h | h
    ·cases h
     refine .bg ⟨zap _,?_⟩
     rw [beq_iff_eq.mp hk]
     exact zad
    ·exact .inl h
   ·exact .bg ⟨Nat.le_of_succ_le h1,zae _ h2⟩
  |false =>
   rw [if_neg (by rw [hk];decide)] at h
   rcases BG r _ _ x c h with h | ⟨h1,h2⟩
   ·exact .inl h
   ·exact .bg ⟨h1,zae _ h2⟩
theorem BF:∀(names:.cO) (n:Nat) (acc:.dh),(∀x y c,(x,c)∈acc->(y,c)∈acc->x=y)->(∀x c,(x,c)∈acc->@LT.lt Nat _ c n)->∀x y c,(x,c)∈cellsFrom n names acc->(y,c)∈cellsFrom n names acc->x=y
 |[],n,acc,h1,_,x,y,c,h,h'=>h1 x y c h h'
 |(z,k)::r,n,acc,h1,h2,x,y,c,h,h'=>by
  unfold cellsFrom at h h'
  cases hk:(k == NameKind.cell) with
  |true =>
   rw [if_pos hk] at h h'
   refine BF r (n+1) _ (fun a b d ha hb=>?_) (fun a d ha=>?_) x y c h h'
   ·rcases zao.mp ha with ha | ha<;>rcases zao.mp hb with hb | hb
    ·cases ha;cases hb;rfl
    ·cases ha;exact absurd (h2 _ _ hb) (zaP _)
    ·cases hb;exact absurd (h2 _ _ ha) (zaP _)
    ·exact h1 a b d ha hb
   ·rcases zao.mp ha with ha | ha
    ·cases ha;exact zbg _
    ·exact zaQ (h2 _ _ ha)
  |false =>
   rw [if_neg (by rw [hk];decide)] at h h'
   exact BF r n acc h1 h2 x y c h h'
theorem sA:∀(names:.cO) (n:Nat) (acc:.dh) (x:Str),((x,NameKind.cell)∈names\/∃c,(x,c)∈acc)->∃c,(x,c)∈cellsFrom n names acc
 |[],n,acc,x,h=>by
  rcases h with h | h
  ·cases h
  ·exact h
 |(y,k)::r,n,acc,x,h=>by
  unfold cellsFrom
  cases hk:(k == NameKind.cell) with
  |true =>
   refine sA r _ _ x ?_
   rcases h with h | ⟨c,h⟩
   ·rcases zao.mp h with h | h
    ·cases h;exact .inr ⟨_,zad⟩
    ·exact .inl h
   ·exact .bg ⟨c,zae _ h⟩
  |false =>
   refine sA r _ _ x ?_
   rcases h with h | h
   ·rcases zao.mp h with h | h
    ·cases h;cases hk
    ·exact .inl h
   ·exact .inr h
theorem xy:∀(names:.cO) (h:Heap) (acc:.dh) (x:Str) (c:Addr),(x,c)∈cellsFrom h.objs.size names acc->(x,c)∈acc\/(pushCells h names).IsCell c none
 |[],h,acc,x,c,m=>.inl m
 |(y,k)::r,h,acc,x,c,m=>by
  unfold cellsFrom at m
  unfold pushCells
  cases hk:(k == NameKind.cell) with
  |true =>
   rw [if_pos hk] at m
   have Q:(x,c)∈cellsFrom (h.push { cls:=.type "cell", data:=.cell none }).objs.size r ((y,h.objs.size)::acc):=by rw [Heap.size_push];exact m
   rcases xy r _ _ x c Q with m | m
   ·rcases zao.mp m with m | m
    ·cases m
     refine .inr ?_
     have q:(h.push { cls:=.type "cell", data:=.cell none }).IsCell h.objs.size none:=⟨_,.ac,rfl⟩
     exact q.keeps fun b o e=>pushCells_keeps r _ b o e
    ·exact .inl m
   ·exact .inr m
  |false =>
   rw [if_neg (by rw [hk];decide)] at m
   exact xy r h acc x c m
noncomputable def jD (X:Cx)(scope:Scope)(C:Addr)(cs:.dh):Env:=
 { newEnv scope C X.env.globals cs X.env.qual none .none (some X.env) builtinsNs with scope:=relabel scope X.env }
noncomputable def lX (X:Cx)(scope:Scope)(N':.V)(C:Addr)(cs:.dh)(Y8:Shared)(Y9:Hp)(fp:.af)(pins:.v):Cx:=
 { X with N:=N',Y8:=Y8,Y9:=Y9,env:=jD X scope C cs,outer:=X.stack,stack:=X.stack,ex:=fp,fn:=fun x=>scope.names.lookup x == some .cell,pn:=X.pn++pins,xe:=fun _ _=>False }
structure eI (X:Cx)(scope:Scope):Prop where
 kind:scope.kind=.function
 names:∀y∈scope.names,y.2=.local->scope.names.lookup y.1=some .local
 free:∀y∈scope.names,y.2=.free->(X.env.kindOf y.1=some .cell\/X.env.kindOf y.1=some .free)/\(y.1,NameKind.cell)∉scope.names/\scope.names.lookup y.1=some .free
theorem mem_of_lookupK:∀{l:.cO} {x:Str} {k:NameKind},l.lookup x=some k->(x,k)∈l
 |(y,d)::r,x,k,h=>by
  rw [zbh] at h
  cases hb:x == y with
  |true=>rw [hb] at h;cases h;rw [beq_iff_eq.mp hb];exact zad
  |false=>rw [hb] at h;exact zae _ (mem_of_lookupK h)
theorem iA {env:Env}:∀{names:.cO} {x:Str},names.lookup x=some .free ->
    ((names.map fun (n,k)=>if .a2 then (n,NameKind.cell) else (n,k)).lookup x=some .cell \/
     (names.map fun (n,k)=>if .a2 then (n,NameKind.cell) else (n,k)).lookup x=some .free)
  |(n,k)::r,x,h=>by
    rw [zbh] at h
    have en:∀y:Str×NameKind,y=(if .a2=true then (n,NameKind.cell) else (n,k))->y.1=n/\(y.2=.cell\/y.2=k):=fun y e=>by grind
    rw [zag]
    dsimp only
    generalize R:(if .a2=true then (n,NameKind.cell) else (n,k))=y
    obtain⟨e1,e2⟩:=en y R.symm
    obtain⟨a,b⟩:=y
    subst e1
    rw [zbh]
    cases hb:x == a with
    |true =>
      rw [hb] at h
      cases h
      rcases e2 with rfl | rfl
      · exact .inl rfl
      · exact .inr rfl
    |false =>
      rw [hb] at h
      exact iA h
theorem AW {X:Cx}{scope:Scope}{x:Str}(h:(jD X scope C cs).kindOf x=some .cell\/(jD X scope C cs).kindOf x=some .free):(x,NameKind.cell)∈scope.names\/(x,NameKind.free)∈scope.names:=by
 have key:∀k,(jD X scope C cs).kindOf x=some k->(k=.cell\/k=.free)->(x,NameKind.cell)∈scope.names\/(x,NameKind.free)∈scope.names:=fun k h hk=>by
  have m:=mem_of_lookupK (h)
  obtain⟨⟨y,j⟩,g,P⟩:=zah.mp m
  dsimp only at P
  split at P
  ·next U =>
   cases P
   simp only [Bool.and_eq_true,beq_iff_eq] at U
   rw [U.1.1] at g
   exact .inr g
  ·cases P
   rcases hk with rfl | rfl
   ·exact .inl g
   ·exact .inr g
 rcases h with h | h
 ·exact key _ h .bM
 ·exact key _ h (.inr rfl)
section
variable {X:Cx}{pins:.v}{σ:L2.St}{H:Hp}{s:Shared}{scope:Scope}{fp:.af}{N':.V}{σ':L2.St}
abbrev C5:Obj:={ cls:=.type "list", dict:=none,data:=.seq ([]:List Value).toArray }
abbrev mh:Obj:={ cls:=.type "dict", data:=.dict #[] }
noncomputable def hA (acc:Obj)(h:Heap)(scope:Scope):Heap:=pushCells ((h.push acc).push mh) scope.names
abbrev h0 (h:Heap)(scope:Scope):Heap:=hA C5 h scope
theorem js {acc:Obj}{h:Heap}{b:Addr}{o:Obj}(e:h.get? b=some o):(hA acc h scope).get? b=some o:=pushCells_keeps _ _ _ _ (.H (Heap.get?_push_of_some _ e))
theorem Dy {h:Heap}{b:Addr}{o:Obj}(e:h.get? b=some o):(h0 h scope).get? b=some o:=js e
theorem M1 {acc:Obj}(h:Heap)(ha:acc.isFreed=false):(hA acc h scope).get? h.objs.size=some acc:=pushCells_keeps _ _ _ _ (.H (.aI ha))
theorem sv (acc:Obj)(u:HO)(new:dE X.prog X.w (.O u) (hA acc s.heap scope) s.heap.objs.size u)(I:.u)(B:.f7)(hf:∀b∈fp,si X pins H b)(ho:∀b∈fp,∃o,s.heap.get? b=some o)(hl:σ'.length=N'.length)
  (cap:∀(i:Nat) (x:Str) (v:V),N'[i]? = some x->σ'[i]? = some .di->((x,NameKind.free)∈scope.names/\∃j:Nat,X.N[j]? = some x/\σ[j]? = some .di)\/¬ Oz (relabel scope X.env) x) {tk:Nat} :
  Inv (lX X scope N' .a3 (cellsFrom .da scope.names .aD) s H fp pins) [] σ' (.O u) { s with heap:=hA acc s.heap scope,toks:=tk }:=by
 have L:(s.heap.push acc).objs.size=s.heap.objs.size+1:=.hM
 have w:((s.heap.push acc).push mh).objs.size=s.heap.objs.size+2:=by rw [Heap.size_push,L]
 have G:=.bq
 have k:∀x c,(x,c)∈pL X.env scope.names []->X.env.cells.lookup x=some c/\(x,NameKind.free)∈scope.names:=fun x c h=>by
  rcases xB _ _ x c G h with h | h
  ·cases h
  ·exact h
 have D:∀x c,(x,c)∈pL X.env scope.names []->@LT.lt Nat _ c s.heap.objs.size:=fun x c h=>by
  obtain⟨v,q⟩:=I.cell x c (k x c h).1
  exact q.lt
 have E:∀x c,(x,c)∈cellsFrom .da scope.names _->(X.env.cells.lookup x=some c/\(x,NameKind.free)∈scope.names/\@LT.lt Nat _ c s.heap.objs.size)\/(@LE.le Nat _ .da c/\(x,NameKind.cell)∈scope.names):=fun x c h=>by
  rcases BG _ _ _ x c h with h | h
  ·exact .inl ⟨(k x c h).1,(k x c h).2,D x c h⟩
  ·exact .inr h
 have A:=I.fresh
 have up:∀b:Addr,@LT.lt Nat _ b s.heap.objs.size->upd H s.heap.objs.size u b=H b:=fun b hb=>ay (zat hb)
 have M:∀b:Addr,@LT.lt Nat _ s.heap.objs.size b->upd H s.heap.objs.size u b=none:=fun b hb=>by rw [ay (za6 hb)];exact I.hok.fresh (zb5 hb)
 have flt:∀b∈fp,@LT.lt Nat _ b s.heap.objs.size:=fun b hb=>by obtain⟨o,e⟩:=ho b hb;exact Heap.lt_size e
 refine⟨⟨I.ok.mod,B.kind,I.ok.glob,I.ok.blt,zbu _,fun x y c h1 h2=>?_,fun x hx=>?_,fun x c hx h=>?_,I.ok.hd,I.ok.frames,.inl rfl,fun b hb=>⟨?_,fun x c h=>?_⟩,I.bs,zaG I.ok.bsz I.sz,fun b o e hb=>?_,fun b hb z=>?_,I.stack,I.stkFree⟩,
  rfl,I.bare,?_,⟨fun _=>none,?_,fun i x v e1 e2 e3=>?_⟩,fun x c h=>?_,M _ (zbg _),fun x c h=>?_,fun p hp=>?_,?_,hl⟩
 ·exact BF _ _ _ (fun a b d ha hb=>I.ok.inj a b d (k a d ha).1 (k b d hb).1) (fun a d ha=>zaw (D a d ha) (zcc _ 2)) x y c (zaF h1) (zaF h2)
 ·have hm:∃c,(x,c)∈cellsFrom .da scope.names .aD:=by
   rcases AW hx with h | h
   ·exact sA _ _ _ x (.inl h)
   ·exact sA _ _ _ x (.inr (rD _ _ x (.inl h)))
  obtain⟨c,hm⟩:=hm
  exact fY hm
 ·have Q:=beq_iff_eq.mp hx
  rcases E x c (zaF h) with ⟨_,h2,_⟩ | ⟨h1,_⟩
  ·exact absurd (mem_of_lookupK Q) (B.free _ h2 rfl).2.1
  ·exact zaG (zcc _ 2) h1
 ·exact zat (zaQ (flt b hb))
 ·rcases E x c (zaF h) with ⟨h1,_,_⟩ | ⟨h1,_⟩
  ·exact (hf b hb).2.2.2.2.1 x c h1
  ·exact za6 (zaw (flt b hb) (zaG (zcc _ 2) h1))
 ·rcases (hf b hb).2.2.2.1 with z | z
  ·exact I.ok.noex b o e z
  ·exact absurd (zaw .aF (zaG I.ok.bsz z)) (zaP _)
 ·rcases zao.mp (I.stkSub b z) with z | z
  ·exact (hf b hb).2.1 z
  ·exact (hf b hb).2.2.1 z
 ·exact Un.laid (fun b o e=>js e) .b8 A
 ·have q:=Heap.Ns.new (s.heap.push acc) (.type "dict")
  rw [L] at q
  exact q.keeps fun b o e=>pushCells_keeps _ _ b o e
 ·rcases cap i x v e1 e2 with ⟨hx,j,S,N⟩ | hn
  ·obtain⟨m,hm,K⟩:=I.loc
   have hk:=(B.free _ hx rfl).1
   have vis:Oz X.env.scope x:=by
    rcases hk with hk | hk
    ·exact .bg (.inl hk)
    ·exact .bg (.inr hk)
   obtain⟨u,r,l⟩:=K j x v S N vis
   refine⟨u,r,.inr ?_⟩
   rcases l with ⟨z,_⟩ | ⟨_,c,U,f⟩
   ·rcases hk with hk | hk<;>(rw [show X.env.kindOf x=X.env.scope.names.lookup x from rfl] at hk z;rw [hk] at z;cases z)
   ·obtain⟨g,F⟩:=fY (Classical.choose_spec (sA scope.names .da .aD x (.inr (rD _ _ x (.inl hx)))))
    have t:g=c:=by
     rcases E x g (zaF F) with ⟨h1,_,_⟩ | ⟨_,h2⟩
     ·rw [U] at h1;exact (zaT h1).symm
     ·exact absurd h2 (B.free _ hx rfl).2.1
    subst t
    refine⟨?_,g,F,f.keeps fun b o e=>js e⟩
    rcases e3 with e3 | e3 | e3
    ·rcases iA (env:=X.env) (B.free _ hx rfl).2.2 with q | q
     ·exact .inl q
     ·exact .inr q
    ·exact .inl e3
    ·exact .inr e3
  ·exact absurd e3 hn
 ·rcases xy scope.names _ .aD x c (by rw [w];exact zaF h) with m | m
  ·obtain⟨v,q⟩:=I.cell x c (k x c m).1
   exact⟨v,q.keeps fun b o e=>js e⟩
  ·exact⟨none,m⟩
 ·rcases E x c (zaF h) with ⟨h1,_,W⟩ | ⟨h1,_⟩
  ·rw [up c W];exact I.freeC x c h1
  ·exact M c (zaw (Nat.lt_add_of_pos_right .f) h1)
 ·have J:p∈X.pn++pins:=by simpa [lX] using hp
  obtain⟨e,n,ne,C,d⟩:=I.pin p J
  have lt:=Heap.lt_size e
  refine⟨js e,by rw [up _ lt];exact n,zat (zaQ lt),fun z=>?_,d⟩
  rcases zao.mp (I.stkSub _ z) with z | z
  ·exact ne z
  ·exact C z
 ·exact I.hok.laid (fun b o e=>js e) .b8 new
theorem EJ (I:.u)(B:.f7)(hf:∀b∈fp,si X pins H b)(ho:∀b∈fp,∃o,s.heap.get? b=some o)(hl:σ'.length=N'.length)
  (cap:∀(i:Nat) (x:Str) (v:V),N'[i]? = some x->σ'[i]? = some .di->((x,NameKind.free)∈scope.names/\∃j:Nat,X.N[j]? = some x/\σ[j]? = some .di)\/¬ Oz (relabel scope X.env) x) {tk:Nat} :
  Inv (lX X scope N' .a3 (cellsFrom .da scope.names .aD) s H fp pins) [] σ' (.O (.lst [])) { s with heap:=h0 s.heap scope,toks:=tk }:=
 sv C5 (.lst []) ⟨za4 _,[],0,.nil,M1 s.heap rfl⟩ I B hf ho hl cap
end
noncomputable abbrev zj (l:.av)(env:Env):Sem Bool:=forIn l true fun c r=>if r=true then do let ok <- isTrue c env (eval c env);pure (ForInStep.yield ok) else pure (ForInStep.yield r)
theorem ER {prog:.ah}{w:World}{A:Around}{R:.dR}{s:Shared}{elt target iter:Expr}{l:.av}{scope:Scope}{pos:Pos}{it acc:Value}{env:Env}(I:Nat->Shared->Prop)
  (turn:∀n s,I n s->wpAny .Q A (pyNext it) (fun r g=>match r with
   |none=>R (.ok .next) g
   | some v=>wpAny .Q A (letOwnedTupleGo target it v) (fun _ d=>wpAny .Q A (assign target env v) (fun _ c=>wpAny .Q A (zj l env) (fun ok a =>
     if ok=true then wpAny .Q A (eval elt env) (fun x b=>wpAny .Q A (call (.builtin "list.append") [acc,x]) (fun _ i=>∃m,m<n/\I m i) .aE b) .aE a
     else ∃m,m<n/\I m a) .aE c) .aE d) .aE g) .aE s)
  (n:Nat) (h:I n s):codeAny .Q A (.compLoop (.ListComp elt [⟨target,iter,l,0⟩] scope pos) 0 it acc env) R s:=by
 have no:∀{α:Type} {m:Sem α} {Q:α->Shared->Prop} {E:.o} {s:Shared},wpAny .Q A m Q .aE s->wpAny _ A m Q E s:=fun h=>wpAny_mono h (fun _ _ q=>q) fun _ _ z=>z.elim
 refine codeAny_loop rfl I (fun n s hI=>?_) n h
 refine (wpAny_noted ?_:wpAny _ A _ _ _ s)
 refine .f (wpAny_standAt (.G (wpAny_mono (no (turn n s hI)) (fun r g f=>?_) fun _ _ z=>z)))
 cases r with
 |none=>exact wpAny_pure f
 |some v =>
  refine .f (wpAny_mono (no f) (fun _ d k=>wpAny_bind (wpAny_mono (no k) (fun _ c j=>wpAny_bind (wpAny_mono (no j) (fun ok a o=>?_) fun _ _ z=>z)) fun _ _ z=>z)) fun _ _ z=>z)
  cases ok with
  |false=>exact wpAny_pure ⟨rfl,o⟩
  |true=>exact wpAny_bind (.f (wpAny_mono (no o) (fun x b t=>wpAny_bind (wpAny_mono (no t) (fun _ i p=>.ao (.aU ⟨rfl,p⟩)) fun _ _ z=>z)) fun _ _ z=>z))
def bE:aE->Bool
 |[]=>true
 |some (.own _)::_=>false
 |_::r=>bE r
theorem eO:∀{τ:aE} {i:Nat} {ts:List T},bE τ=true->τ[i]?≠some (.s ts)
 |[],i,ts,_=>.h
 |some (.own _)::_,i,ts,h=>by cases h
 |'0' t::r,0,ts,h=>.h
 |none::r,0,ts,h=>.h
 |'0' t::r,i+1,ts,h=>by rw [List.getElem?_cons_succ];exact eO h
 |none::r,i+1,ts,h=>by rw [List.getElem?_cons_succ];exact eO h
noncomputable def dM (fg:FG)(ft:FT)(fe:FE):List T->aE->List T->Option (List T)
 |[],_,acc=>some acc
 |t::ts,τ,acc=>(fg t τ).bind fun τ1=>(ft τ1).bind fun p=>if p.1=true then (fe p.2).bind fun q=>if bE q.2=true/\acc.length<sizeLine then dM fg ft fe ts q.2 (acc++[q.1]) else none
  else if bE p.2=true then dM fg ft fe ts p.2 acc else none
def frz1 (j:Nat)(τ:aE):aE:=match τ[j]? with
 |some (.s ts)=>τ.set j (.z .dn)
 |_=>τ
def frzAll:List Nat->aE->aE
 |[],τ=>τ
 |j::r,τ=>frzAll r (frz1 j τ)
noncomputable def zI {α:Type}(l:List (Option α))(j:Nat):Option α:=match l[j]? with
 |some x=>x
 |none=>none
noncomputable def cq {α:Type}(no:Nat)(cap:.D)(l:List (Option α)):List (Option α):=List.replicate no none++cap.map (zI l)
noncomputable def bq (no:Nat)(cap:.D)(fi:FA)(fg:FG)(ft:FT)(fe:FE):FE:=fun τ=>(fi τ).bind fun p =>
 if bE .bK=true then (dM fg ft fe p.1 .bK []).bind fun us=>some (.lst us,frzAll cap p.2) else none
def aI:FT:=fun τ=>some (true,τ)
noncomputable def EF (X:Cx)(l:.av)(ft:FT):Prop:=∀Y0 Y9 pins s σ H Q,Inv X pins σ H s->tT X.K Y0 Y9 ft σ H Q->wpAny .t X.A (zj l X.env) (TP X pins σ Q) X.xe s
theorem bT {X:Cx}:EF X [] aI:=fun Y0 Y9 pins s σ H Q I G=>by
 obtain⟨F,τ,b,τ',E,e,q⟩:=G
 cases e
 exact wpAny_tests_nil ⟨H,I,q F H E .d9⟩
theorem gC {X:Cx}{c:Expr}{ft:FT}(h:ST X c ft):EF X [c] ft:=fun Y0 Y9 pins s σ H Q I q=>wpAny_tests_one (h Y0 Y9 pins s σ H Q I q)
section
variable {K:.l}{Y0 Y9 F H:Hp}{σ:L2.St}{τ:aE}
theorem aJ.frz1 (E:.aC)(j:Nat):∃F',aJ K Y0 Y9 F' H σ (TM.frz1 j τ)/\aW F F':=by
 unfold TM.frz1
 split
 ·next ts e =>
  obtain⟨F',v,_,Z,s',_⟩:=E.freeze e
  exact⟨F',Z,s'⟩
 ·exact⟨F,E,aW.refl _⟩
theorem aJ.frzAll:∀(cap:.D) {F:Hp} {τ:aE},aJ K Y0 Y9 F H σ τ->∃F',aJ K Y0 Y9 F' H σ (TM.frzAll cap τ)/\aW F F'
 |[],F,τ,E=>⟨F,E,aW.refl _⟩
 |j::r,F,τ,E=>by
  obtain⟨F1,V,s1⟩:=E.frz1 j
  obtain⟨F2,R,s2⟩:=aJ.frzAll r V
  exact⟨F2,R,s1.trans s2⟩
theorem aJ.rebase {H':Hp}(E:.aC)(ha:bE τ=true)(s:aW F H'):aJ K F H' F H' σ τ:=by
 refine⟨bj.refl s,E.len,fun i sl e=>?_,fun i j ts us p _ e1=>absurd e1 (eO ha)⟩
 obtain⟨v,h1,h2⟩:=E.sl i sl e
 cases sl with
 |sh t=>exact⟨v,h1,h2⟩
 |own ts=>exact absurd e (eO ha)
theorem pR {α:Type}{no:Nat}{cap:.D}{l:List (Option α)}{i:Nat}{x:α}(h:(cq no cap l)[i]? = some (some x)):∃k j:Nat,i=no+k/\cap[k]? = some j/\l[j]? = some (some x):=by
 unfold cq at h
 by_cases hi:i<no
 ·rw [List.getElem?_append_left .dq,List.getElem?_replicate] at h
  split at h<;>cases h
 ·rw [List.getElem?_append_right .dq,List.length_replicate,List.getElem?_map] at h
  cases e:cap[i-no]? with
  |none=>rw [e] at h;cases h
  |some j =>
   rw [e] at h
   have h':=zaT h
   unfold zI at h'
   split at h'
   ·next y G=>exact⟨i-no,j,.e,e,by rw [G,h']⟩
   ·cases h'
theorem EI {α:Type}{no:Nat}{cap:.D}{l:List (Option α)}{k j:Nat}{x:α}(h1:cap[k]? = some j)(h2:l[j]? = some (some x)):(cq no cap l)[no+k]? = some (some x):=by
 unfold cq
 rw [List.getElem?_append_right .h,List.length_replicate,Nat.add_sub_cancel_left,List.getElem?_map,h1]
 show some (zI l j)=_
 unfold zI
 rw [h2]
theorem aJ.block {H':Hp}{no:Nat}{cap:.D}(E:.aC)(ha:bE (.bb τ)=true)(s:aW F H'):aJ K F H' F H' (.bb σ) (.bb τ):=by
 refine⟨bj.refl s,by simp [cq],fun i sl e=>?_,fun i j ts us p _ e1=>absurd e1 (eO ha)⟩
 obtain⟨k,j,rfl,hk,S⟩:=pR e
 obtain⟨v,h1,h2⟩:=E.sl j sl S
 refine⟨v,EI hk h1,?_⟩
 cases sl with
 |sh t=>exact h2
 |own ts=>exact absurd e (eO ha)
end
section
variable {X:Cx}
noncomputable def cU (i no:Nat)(cap:.D)(fi:FA)(fg:FG)(ft:FT)(fe:FE):FS:=fun τ=>(fi τ).bind fun p =>
 if bE .bK=true then (dM fg ft fe p.1 .bK []).bind fun us=>some (.nx ((frzAll cap p.2).set i (.s us))) else none
end
noncomputable def zH (sc scope:Scope):Bool:=scope.kind == .function&&scope.names.all fun y=>(y.2 != .local||scope.names.lookup y.1 == some .local) &&
 (y.2 != .free||((sc.names.lookup y.1 == some .cell||sc.names.lookup y.1 == some .free)&&scope.names.all (fun z=>!(z.1 == y.1&&z.2 == .cell))&&scope.names.lookup y.1 == some .free))
theorem aN {X:Cx}{scope:Scope}(h:zH X.env.scope scope=true):eI X scope:=by
 unfold zH at h
 simp only [Bool.and_eq_true,List.all_eq_true,Bool.or_eq_true,bne_iff_ne,beq_iff_eq,Bool.not_eq_true',Bool.and_eq_false_iff] at h
 refine⟨h.1,fun y R hk=>?_,fun y R hk=>?_⟩
 ·rcases (h.2 y R).1 with z | z
  ·exact absurd hk z
  ·exact z
 ·rcases (h.2 y R).2 with z | ⟨⟨f,Z⟩,D⟩
  ·exact absurd hk z
  ·refine⟨f,fun m=>?_,D⟩
   rcases Z _ m with w | w
   ·simp at w
   ·simp at w
noncomputable def sy (N N':.V)(scope:Scope)(no:Nat):List Nat->Bool
 |[]=>true
 |j::r=>(match N'[no]?,N[j]? with | some x,some y=>x == y&&scope.names.any (fun z=>z.1 == x&&z.2 == .free) | _,_=>false)&&sy N N' scope (no+1) r
theorem bM {N N':.V}{scope:Scope}:∀{no:Nat} {cap:.D},sy N N' scope no cap=true->∀(k j:Nat),cap[k]? = some j->∃x,N'[no+k]? = some x/\N[j]? = some x/\(x,NameKind.free)∈scope.names
 |no,[],_,k,j,e=>by simp at e
 |no,c::r,h,k,j,e=>by
  simp only [sy,Bool.and_eq_true] at h
  cases k with
  |zero =>
   simp at e
   subst e
   have h1:=h.1
   split at h1
   ·next x y ex G =>
    simp only [Bool.and_eq_true,beq_iff_eq,List.any_eq_true] at h1
    obtain⟨rfl,z,hz,f,R⟩:=h1
    refine⟨x,ex,G,?_⟩
    obtain⟨a,b⟩:=z
    subst f R
    exact hz
   ·cases h1
  |succ k =>
   obtain⟨x,h1,h2,W⟩:=bM h.2 k j .fE
   exact⟨x,by rw [show no+(k+1)=no+1+k by omega];exact h1,h2,W⟩
inductive O where
 |val (t:T) | lst (os:List O)
mutual
def iU (K:.l)(F H:Hp):O->V->List Addr->Prop
 | .val t,v,A=>A=[]/\Rep K F t v
 | .lst os,v,A=>∃p vs B,v=.ref p/\A=p::B/\H p=some .ev/\F p=none/\cQ K F H os vs B
def cQ (K:.l)(F H:Hp):List O->List V->List Addr->Prop
 |[],vs,A=>vs=[]/\A=[]
 |o::os,vs,A=>∃v r B C,vs=v::r/\A=B++C/\iU K F H o v B/\cQ K F H os r C
end
mutual
def O.tr:O->T
 | .val t=>t
 | .lst os=>.lst (O.trs os)
def O.trs:List O->List T
 |[]=>[]
 |o::os=>o.tr::O.trs os
end
section
variable {K:.l}{F H F' H':Hp}
mutual
theorem iU.move (sF:aW F F'):∀{o:O} {v:V} {A:.af},(∀a∈A,H' a=H a/\F' a=none)->iU K F H o v A->iU K F' H' o v A
 | .val t,v,A,_,h=>⟨h.1,Rep.mono sF h.2⟩
 | .lst os,v,A,hA,h=>by
  obtain⟨p,vs,B,rfl,rfl,h1,h2,W⟩:=h
  have hp:=hA p zad
  exact⟨p,vs,B,rfl,rfl,hp.1.trans h1,hp.2,cQ.move sF (fun a ha=>hA a (.aT ha)) W⟩
theorem cQ.move (sF:aW F F'):∀{os:List O} {vs:List V} {A:.af},(∀a∈A,H' a=H a/\F' a=none)->cQ K F H os vs A->cQ K F' H' os vs A
 |[],vs,A,_,h=>h
 |o::os,vs,A,hA,h=>by
  obtain⟨v,r,B,C,rfl,rfl,h1,h2⟩:=h
  exact⟨v,r,B,C,rfl,rfl,iU.move sF (fun a ha=>hA a (zaH _ ha)) h1,cQ.move sF (fun a ha=>hA a (zaq _ ha)) h2⟩
end
mutual
theorem iU.at:∀{o:O} {v:V} {A:.af},iU K F H o v A->∀a∈A,F a=none/\∃vs,H a=some .ev
 | .val t,v,A,h,a,ha=>by rw [h.1] at ha;cases ha
 | .lst os,v,A,h,a,ha=>by
  obtain⟨p,vs,B,rfl,rfl,h1,h2,W⟩:=h
  rcases zao.mp ha with rfl | ha
  ·exact⟨h2,vs,h1⟩
  ·exact cQ.at W a ha
theorem cQ.at:∀{os:List O} {vs:List V} {A:.af},cQ K F H os vs A->∀a∈A,F a=none/\∃vs,H a=some .ev
 |[],vs,A,h,a,ha=>by rw [h.2] at ha;cases ha
 |o::os,vs,A,h,a,ha=>by
  obtain⟨v,r,B,C,rfl,rfl,h1,h2⟩:=h
  rcases zaz.mp ha with ha | ha
  ·exact iU.at h1 a ha
  ·exact cQ.at h2 a ha
end
mutual
theorem iU.rep (sF:aW F F'):∀{o:O} {v:V} {A:.af},(∀a∈A,F' a=H a)->iU K F H o v A->Rep K F' o.tr v
 | .val t,v,A,_,h=>Rep.mono sF h.2
 | .lst os,v,A,hA,h=>by
  obtain⟨p,vs,B,rfl,rfl,h1,h2,W⟩:=h
  exact⟨p,vs,rfl,(hA p zad).trans h1,cQ.rep sF (fun a ha=>hA a (.aT ha)) W⟩
theorem cQ.rep (sF:aW F F'):∀{os:List O} {vs:List V} {A:.af},(∀a∈A,F' a=H a)->cQ K F H os vs A->aU K F' (O.trs os) vs
 |[],vs,A,_,h=>h.1
 |o::os,vs,A,hA,h=>by
  obtain⟨v,r,B,C,rfl,rfl,h1,h2⟩:=h
  exact⟨v,r,rfl,iU.rep sF (fun a ha=>hA a (zaH _ ha)) h1,cQ.rep sF (fun a ha=>hA a (zaq _ ha)) h2⟩
end
theorem cQ.app:∀{os us:List O} {vs ws:List V} {A B:.af},cQ K F H os vs A->cQ K F H us ws B->cQ K F H (os++us) (vs++ws) (A++B)
 |[],_,_,_,_,_,h,h'=>by obtain⟨rfl,rfl⟩:=h;exact h'
 |o::os,_,_,_,_,_,h,h'=>by
  obtain⟨v,r,B,C,rfl,rfl,h1,h2⟩:=h
  exact⟨v,r++_,B,C++_,rfl,by rw [zaJ],h1,cQ.app h2 h'⟩
theorem cQ.one {o:O}{v:V}{A:.af}(h:iU K F H o v A):cQ K F H [o] [v] A:=⟨v,[],A,[],rfl,.h,h,rfl,rfl⟩
theorem cQ.length:∀{os:List O} {vs:List V} {A:.af},cQ K F H os vs A->vs.length=os.length
 |[],_,_,h=>by rw [h.1];rfl
 |o::os,_,_,h=>by
  obtain⟨v,r,B,C,rfl,rfl,h1,h2⟩:=h
  simp [cQ.length h2]
def frzO (F H:Hp)(A:.af):Hp:=fun a=>if a∈A then H a else F a
theorem xQ {A:.af}{a:Addr}(h:a∈A):frzO F H A a=H a:=if_pos h
theorem oQ {A:.af}{a:Addr}(h:a∉A):frzO F H A a=F a:=if_neg h
theorem iR {A:.af}(h:∀a∈A,F a=none):aW F (frzO F H A):=fun a o e=>by
 rw [oQ (fun m=>by rw [h a m] at e;cases e)];exact e
theorem iU.frz {o:O}{v:V}{A:.af}(h:iU K F H o v A):Rep K (frzO F H A) o.tr v:=iU.rep (iR fun a ha=>(h.at a ha).1) (fun a ha=>xQ ha) h
theorem bj.frzO {Y0 Y9:Hp}{A:.af}(g:bj Y0 Y9 F H)(h:∀a∈A,F a=none)(h0:∀a∈A,Y9 a=none):bj Y0 Y9 (frzO F H A) H:=by
 refine⟨g.sF.trans (iR h),g.sH,fun a o e=>?_,fun a o e=>?_⟩
 ·by_cases m:a∈A
  ·rw [xQ m] at e;exact e
  ·rw [oQ m] at e;exact g.fh _ _ e
 ·by_cases m:a∈A
  ·exact .bg (h0 a m)
  ·rw [oQ m] at e;exact g.nw _ _ e
end
section
variable {K:.l}{Y0 Y9 F H F' H':Hp}{σ:L2.St}{τ:aE}{A:.af}
noncomputable def Apart (σ:L2.St)(τ:aE)(A:.af):Prop:=∀(j:Nat) us p,τ[j]? = some (.s us)->σ[j]? = some (.U p)->p∉A
theorem aJ.frzO (E:.aC)(h:∀a∈A,F a=none)(h0:∀a∈A,Y9 a=none)(ow:Apart σ τ A):aJ K Y0 Y9 (TM.frzO F H A) H σ τ:=by
 refine⟨E.g.frzO h h0,E.len,fun i s e=>?_,E.dj⟩
 obtain⟨v,h1,h2⟩:=E.sl i s e
 refine⟨v,h1,?_⟩
 cases s with
 |sh t=>exact Rep.mono (iR h) h2
 |own ts =>
  obtain⟨p,vs,rfl,k2,k3,L,k5⟩:=h2
  exact⟨p,vs,rfl,k2,by rw [oQ (ow i ts p e h1)];exact k3,L,aU.mono (iR h) k5⟩
theorem aJ.hp (E:.aC)(s:aW H H'):aJ K Y0 Y9 F H' σ τ:=by
 refine⟨⟨E.g.sF,E.g.sH.trans s,E.g.fh.trans s,E.g.nw⟩,E.len,fun i sl e=>?_,E.dj⟩
 obtain⟨v,h1,h2⟩:=E.sl i sl e
 refine⟨v,h1,?_⟩
 cases sl with
 |sh t=>exact h2
 |own ts =>
  obtain⟨p,vs,rfl,k2,k3,L,k5⟩:=h2
  exact⟨p,vs,rfl,s _ _ k2,k3,L,k5⟩
end
abbrev uQ:=aE->Option (O×aE)
noncomputable def Ut (K:.l)(Y0 Y9:Hp)(f:uQ):TE:=fun σ H Q=>∃F τ o τ',aJ K Y0 Y9 F H σ τ/\f τ=some (o,τ') /\
 ∀F' H' v A,aJ K Y0 Y9 F' H' σ τ'->aW F F'->iU K F' H' o v A->A.Nodup->(∀a∈A,Y9 a=none)->Apart σ τ' A->Q v H'
def Gm (X:Cx)(e:Expr)(f:uQ):Prop:=∀Y0 Y9,PE X e (Ut X.K Y0 Y9 f)
section
variable {X:Cx}{e:Expr}{pos:Pos}
def Tz (f:uQ):FE:=fun τ=>(f τ).bind fun p=>some (p.1.tr,p.2)
theorem Gm.se {f:uQ}(h:Gm X e f):SE X e (Tz f):=fun Y0 Y9=>PE.weak .c8 fun σ H Q G=>by
 obtain⟨F,τ,t,τ',E,e1,q⟩:=G
 obtain⟨⟨o,τ1⟩,e2,e1⟩:=bind_some e1
 cases e1
 refine⟨F,τ,o,τ1,E,e2,fun F' H' v A Z s' r nd h0 ow=>?_⟩
 have D:=fun a ha=>(r.at a ha).1
 exact q _ H' v (Z.frzO D h0 ow) (s'.trans (iR D)) r.frz
def uW (f:FE):uQ:=fun τ=>(f τ).bind fun p=>some (.val p.1,p.2)
theorem SE.seo {f:FE}(h:.gF):Gm X e (uW f):=fun Y0 Y9=>PE.weak .c8 fun σ H Q G=>by
 obtain⟨F,τ,t,τ',E,e1,q⟩:=G
 obtain⟨⟨o,τ1⟩,e2,e1⟩:=bind_some e1
 cases e1
 exact⟨F,τ,o,τ1,E,e2,fun F' H' v Z s' r=>q F' H' v [] Z s' ⟨rfl,r⟩ zbD (fun a ha=>by cases ha) (fun j us p _ _ m=>by cases m)⟩
end
noncomputable def ie (fg:FG)(ft:FT)(fe:uQ):List T->aE->List O->Option (List O)
 |[],_,acc=>some acc
 |t::ts,τ,acc=>(fg t τ).bind fun τ1=>(ft τ1).bind fun p=>if p.1=true then (fe p.2).bind fun q=>if bE q.2=true/\acc.length<sizeLine then ie fg ft fe ts q.2 (acc++[q.1]) else none
  else if bE p.2=true then ie fg ft fe ts p.2 acc else none
section
variable {X:Cx}
structure rZ (X:Cx)(pins:.v)(σ:L2.St)(Y0 Y9 F:Hp)(τ:aE)(rs:List O)(D C:Addr)(s:Shared):Prop where
 ex:∃(H F3:Hp) (vs:List V) (As:.af),Inv X pins σ H s/\aJ X.K Y0 Y9 F3 H σ τ/\aW F F3/\F3 D=none/\H D=some .ev/\Y9 D=none/\cQ X.K F3 H rs vs As/\As.Nodup/\(∀a∈As,Y9 a=none/\a≠D)/\Apart σ τ As/\H C=none
 ns:∃m,s.heap.Ns C m
 cl:C≠X.env.locals
 c0:X.Y8.heap.objs.size≤C
 cc:∀x c,X.env.cells.lookup x=some c->c≠C
 cp:∀p∈X.pn++pins,p.1≠C
 ow:∀(j:Nat) us p,τ[j]? = some (.s us)->σ[j]? = some (.U p)->p≠D
theorem sD {elt tg iter:Expr}{l:.av}{scope:Scope}{pos:Pos}{N':.V}{no:Nat}{cap:.D}{fi:FA}{fg:FG}{ft:FT}{fe:uQ}(hx:X.xe=fun _ _=>False)(U:.bt)(B:.f7)(q:.cf)
  (hcap:∀(k j:Nat),cap[k]? = some j->∃x,N'[no+k]? = some x/\X.N[j]? = some x/\(x,NameKind.free)∈scope.names) (hi:.db)
  (M:∀C cs Y8 Y9 fp pins,SG .y tg fg) (Y:∀C cs Y8 Y9 fp pins,EF .y l ft) (he:∀C cs Y8 Y9 fp pins,Gm .y elt fe)
  {Y0 Y9 F H:Hp} {pins:.v} {s:Shared} {σ:L2.St} {τ τ1:aE} {ts:List T} {rs:List O} (I:.u) (E:aJ X.K Y0 Y9 F H σ τ) (e2:fi τ=some (ts,τ1)) (ha:bE .bJ=true) (e3:ie fg ft fe ts .bJ []=some rs)
  {post:Value->Addr->Result->Shared->Prop} (hpost:∀D C s',rZ X pins σ Y0 Y9 F (frzAll cap τ1) rs D C s'->post (.c D) C (.ok .next) s'):
  wpAny .t X.A (.Z iter) (fun x g=>wpAny .t X.A (pyIter x) (fun it Q=>wpAny .t X.A (newList []) (fun acc s₃ =>
   wpAny .t X.A (newFunctionEnv scope X.env.globals .aD [] X.env.qual none .none (some X.env)) (fun cenv s₄ =>
    codeAny .t X.A (.compStart .au 0 it acc { cenv with scope:=relabel scope X.env }) (post acc cenv.locals) s₄) X.xe s₃) X.xe Q) X.xe g) X.xe s:=by
 refine df (hi Y0 Y9 pins s σ H (fun J H1=>∃F1,aJ X.K Y0 Y9 F1 H1 σ τ1/\aW F F1/\Walks X.K F1 ts J) I ⟨F,τ,ts,τ1,E,e2,fun F1 H1 J V s1 W=>⟨F1,V,s1,W⟩⟩) fun v s1 h1=>df h1 fun itv s2 h2=>?_
 obtain⟨it,fp,tn,J,H1,rfl,K,Tn,st2,f2,F1,V,sF1,W⟩:=h2
 obtain⟨F2,R,sF2⟩:=V.frzAll cap
 have W2:Walks X.K F2 ts J:=⟨fun i t F3 P e a b=>W.go i t F3 P e (sF2.trans a) b,fun i t F3 P x H4 e a b y=>W.yld i t F3 P x H4 e (sF2.trans a) b y,fun F3 P a b=>W.stop F3 P (sF2.trans a) b⟩
 refine wpAny_newObj_type ?_
 have hz:(s2.heap.push C5).objs.size=s2.heap.objs.size+1:=.hM
 have hz2:((s2.heap.push C5).push mh).objs.size=s2.heap.objs.size+2:=by rw [Heap.size_push,hz]
 simp only [newFunctionEnv,Option.isSome_some,if_true]
 refine .f (wpAny_alloc ?_)
 refine wpAny_bind (wpAny_layCells _ (fun name kind cells=>by cases hkc:kind == NameKind.cell<;>simp [hkc]) _ _ _ _ ?_)
 refine .f (.aU .b0)
 have loop:codeAny .t X.A (.compLoop .au 0 .g1 .eT (jD X scope .c3 .cJ))
   (post .eT .c3) { s2 with heap:=h0 s2.heap scope }:=by
  have Ib:=EJ (N':=N') (σ':=cq no cap σ) (tk:=s2.toks) K B f2 (fun b hb=>by obtain⟨o,e,_⟩:=Tn.obj 0 _ st2 b hb;exact⟨o,e⟩) (by simp [cq,q]) (fun i x v a1 a2=>by
   obtain⟨k,j,rfl,hk,S⟩:=pR a2
   obtain⟨x',b1,b2,b3⟩:=hcap k j hk
   rw [a1] at b1;cases b1
   exact .inl ⟨b3,j,b2,S⟩)
  generalize h:lX X scope N' _ _ s2 H1 fp pins=X' at Ib
  have hg':SG X' tg fg:=by rw [<- h];exact M _ _ _ _ _ _
  have ht':EF X' l ft:=by rw [<- h];exact Y _ _ _ _ _ _
  have he':Gm X' elt fe:=by rw [<- h];exact he _ _ _ _ _ _
  have xP:X'.prog=X.prog:=by rw [<- h];rfl
  have xw:X'.w=X.w:=by rw [<- h];rfl
  have xK:X'.K=X.K:=by rw [<- h];rfl
  have xA:X'.A=X.A:=by rw [<- h];rfl
  have xc:X'.calm=true:=by rw [<- h];exact U
  have xx:X'.xe=fun _ _=>False:=by rw [<- h];rfl
  have xe':X'.env=jD X scope .c3 .cJ:=by rw [<- h];rfl
  have xex:X'.ex=fp:=by rw [<- h];rfl
  have xfs:X'.fs=wt X.stack:=by rw [<- h];rfl
  have xpn:X'.pn=X.pn++pins:=by rw [<- h];rfl
  have xs0:X'.Y8=s2:=by rw [<- h];rfl
  have xH0:X'.Y9=H1:=by rw [<- h];rfl
  have xl:X'.env.locals=s2.heap.objs.size+1:=by rw [<- h];rfl
  rw [<- xe',<- xP,<- xw,<- xA]
  have hD1:=K.fresh
  have fpk:∀{Hc:Hp} {σc:L2.St} {pc:List _} {sc:Shared},Inv X' pc σc Hc sc->(∀b∈fp,Hc b=none)->∀b∈fp,si X' [] Hc b:=fun {Hc σc pc sc} Ic hn b hb=>by
   have q1:=Ic.ok.exf b .ec
   refine⟨hn b hb,q1.1,(Ic.ok.exfs b .ec),.inl .ec,q1.2,fun p hp=>?_⟩
   rw [xpn,zaA] at hp
   exact (f2 b hb).2.2.2.2.2 p hp
  refine ER (fun n s3=>∃i σ3 P F3 τ3 us vs As,Inv X' [] σ3 P s3/\tn i s3.heap/\(∀b∈fp,P b=none)/\aJ X.K F3 P F3 P σ3 τ3/\bE τ3=true/\F3 s2.heap.objs.size=none/\P s2.heap.objs.size=some .ev/\(cQ X.K F3 P us vs As/\As.Nodup/\∀a∈As,H1 a=none/\a≠s2.heap.objs.size)/\aW F2 F3/\aW H1 P /\
   (∀a o,F3 a=some o->F2 a=some o\/H1 a=none)/\i≤ts.length/\n=ts.length-i/\ie fg ft fe (ts.drop i) τ3 us=some rs) ?_ ts.length ?_
  ·rintro n s3 ⟨i,σ3,P,F3,τ3,us,vs,As,I3,st3,fr3,E3,ha3,fD,hD,⟨f,nd,fr⟩,sF,sH,nw,hi',rfl,ec⟩
   by_cases G:i<ts.length
   ·have hgi:=zas G
    rw [zbn G] at ec
    obtain⟨τ4,e4,ec⟩:=bind_some ec
    obtain⟨⟨b,τ5⟩,e5,ec⟩:=bind_some ec
    have go:=W2.go i _ F3 P hgi sF E3.g.fh
    refine df ((xP ▸ xw ▸ xK ▸ Tn:Turn X'.prog X'.w X'.K tg J fp it tn).item X' rfl rfl rfl xc i [] s3 σ3 P .aE I3 (fpk I3 fr3) st3 go) fun r s4 ⟨u,hr,N⟩=>?_
    subst hr
    refine df N fun _ s5 ⟨x,H5,I5,r5,y5,st5,fr5⟩=>?_
    obtain⟨F5,A,L⟩:=W2.yld i _ F3 P x H5 hgi sF E3.g.fh y5
    have a1:=hg' F3 P _ s5 σ3 H5 x u (fun σ6 H6=>∃F6,aJ X.K F3 P F6 H6 σ6 τ4/\aW F5 F6) (I5.pinned (fpk I5 fr5) (Tn.obj _ _ st5)) r5 (by rw [xK];exact⟨F5,τ3,ts[i],τ4,E3.grow A,L,e4,fun F6 H6 σ6 E6 s6=>⟨F6,E6,s6⟩⟩)
    rw [xx] at a1
    refine df a1 fun _ s6 ⟨σ6,H6,I6,F6,E6,sF6⟩=>?_
    have a2:=ht' F3 P _ s6 σ6 H6 (fun b' H7=>b'=b/\∃F7,aJ X.K F3 P F7 H7 σ6 τ5/\aW F6 F7) I6 (by rw [xK];exact⟨F6,τ4,b,τ5,E6,e5,fun F7 H7 E7 s7=>⟨rfl,F7,E7,s7⟩⟩)
    rw [xx] at a2
    refine df a2 fun ok s7 ⟨H7,I7,hok,F7,E7,sF7⟩=>?_
    subst hok
    have tail:∀{σc:L2.St} {Hc:Hp} {sc:Shared},Inv X' ([]++qi fp s5.heap) σc Hc sc->tn (i+1) sc.heap/\∀b∈fp,Hc b=none:=fun {σc Hc sc} Ic=>by
     refine⟨Tn.keep _ _ _ st5 fun b hb o e=>(Ic.pin (b,o) .du).1,fun b hb=>?_⟩
     obtain⟨o,e,d⟩:=Tn.obj _ _ st5 b hb
     exact (Ic.pin (b,o) .du).2.1
    have keepD:∀{Fc Hc:Hp} {σc:L2.St} {τc:aE},aJ X.K F3 P Fc Hc σc τc->Fc s2.heap.objs.size=none:=fun {Fc Hc σc τc} Ec=>by
     cases eF:Fc s2.heap.objs.size with
     |none=>rfl
     |some o =>
      rcases Ec.g.nw _ o eF with z | z
      ·rw [fD] at z;cases z
      ·rw [hD] at z;cases z
    have newF:∀{Fc Hc:Hp} {σc:L2.St} {τc:aE},aJ X.K F3 P Fc Hc σc τc->∀a o,Fc a=some o->F2 a=some o\/H1 a=none:=fun {Fc Hc σc τc} Ec a o eF=>by
     rcases Ec.g.nw a o eF with z | z
     ·exact nw a o z
     ·exact .bg (sH.free z)
    have mv:∀{Fc Hc Hd:Hp} {σc:L2.St} {τc:aE},aJ X.K F3 P Fc Hc σc τc->(∀a,a≠s2.heap.objs.size->Hd a=Hc a)->cQ X.K Fc Hd us vs As:=fun {Fc Hc Hd σc τc} Ec hd=>by
     refine cQ.move Ec.g.sF (fun a ha=>?_) f
     obtain⟨f1,ws,f2⟩:=f.at a ha
     refine⟨by rw [hd a (fr a ha).2,Ec.g.sH _ _ f2,f2],?_⟩
     cases eF:Fc a with
     |none=>rfl
     |some o =>
      rcases Ec.g.nw _ o eF with z | z
      ·rw [f1] at z;cases z
      ·rw [f2] at z;cases z
    cases b':ok with
    |false =>
     subst b'
     dsimp only at ec
     rw [if_neg .f] at ec
     split at ec
     ·next ha =>
      obtain⟨t1,t2⟩:=tail I7
      exact⟨ts.length-(i+1),.e,i+1,σ6,H7,F7,τ5,us,vs,As,I7.unpinned,t1,t2,E7.rebase ha E7.g.fh,ha,keepD E7,E7.g.sH _ _ hD,⟨mv E7 .x,nd,fr⟩,sF.trans E7.g.sF,sH.trans E7.g.sH,newF E7,G,rfl,ec⟩
     ·cases ec
    |true =>
     subst b'
     obtain⟨⟨y0,τ6⟩,e6,ec⟩:=bind_some ec
     split at ec
     ·next ha =>
      have a3:=he' F3 P _ s7 σ6 H7 (fun y H8=>∃F8 Ay,aJ X.K F3 P F8 H8 σ6 τ6/\iU X.K F8 H8 y0 y Ay/\Ay.Nodup/\∀a∈Ay,P a=none) I7 (by rw [xK];exact⟨F7,τ5,y0,τ6,E7,e6,fun F8 H8 y Ay E8 s8 r8 n8 h8 _=>⟨F8,Ay,E8,r8,n8,h8⟩⟩)
      rw [xx] at a3
      refine df a3 fun yv s8 ⟨y,H8,I8,Z,F8,Ay,E8,rp,ndy,hy8⟩=>?_
      have dD:=E8.g.sH _ _ hD
      have a4:=wH _ s8 σ6 H8 .eT [y] _ [yv] (fun _ H9=>H9=upd H8 s2.heap.objs.size _) I8 rfl (.ar Z) ⟨s2.heap.objs.size,vs,y,rfl,rfl,dD,by rw [f.length];exact ha.2,rfl⟩
      rw [xx] at a4
      refine df a4 fun _ s9 ⟨_,H9,I9,_,e9⟩=>?_
      subst e9
      obtain⟨t1,t2⟩:=tail I9
      have kD:=keepD E8
      have sm:aW F8 .ft:=fun c o z=>by rw [ay (fun w=>by subst w;rw [kD] at z;cases z)];exact E8.g.fh _ _ z
      have sm1:aW H1 .ft:=fun c o z=>by rw [ay (fun w=>by subst w;rw [hD1] at z;cases z)];exact E8.g.sH _ _ (sH _ _ z)
      have yD:∀a∈Ay,a≠s2.heap.objs.size:=fun a ha z=>by have:=hy8 a ha;rw [z,hD] at this;cases this
      have rp9:iU X.K F8 .ft y0 y Ay:=iU.move .d9 (fun a ha=>⟨ay (yD a ha),(rp.at a ha).1⟩) rp
      have all9:=(mv E8 (fun a ha=>ay ha)).app (.one rp9)
      have nd9:=zaI.mpr ⟨nd,ndy,fun a ha b hb z=>by subst z;obtain⟨_,ws,f2⟩:=f.at a ha;rw [hy8 a hb] at f2;cases f2⟩
      have fr9:∀a∈As++Ay,H1 a=none/\a≠s2.heap.objs.size:=fun a ha=>by
       rcases zaz.mp ha with ha | ha
       ·exact fr a ha
       ·exact⟨sH.free (hy8 a ha),yD a ha⟩
      exact⟨ts.length-(i+1),.e,i+1,σ6,_,F8,τ6,us++[y0],vs++[y],As++Ay,I9.unpinned,t1,t2,E8.rebase ha.1 sm,ha.1,kD,aM,⟨all9,nd9,fr9⟩,sF.trans E8.g.sF,sm1,newF E8,G,rfl,ec⟩
     ·cases ec
   ·have hie:i=ts.length:=.e
    subst hie
    rw [zbE] at ec
    cases ec
    refine df ((xP ▸ xw ▸ xK ▸ Tn:Turn X'.prog X'.w X'.K tg J fp it tn).done X' rfl rfl rfl xc ts.length [] s3 σ3 P .aE I3 (fpk I3 fr3) st3 (W2.stop F3 P sF E3.g.fh)) fun r s4 ⟨hr,I4⟩=>?_
    subst hr
    obtain⟨m4,hm4,_⟩:=I4.loc
    rw [xl] at hm4
    have un:=I4.base
    rw [xfs,xex,xH0,xs0] at un
    have ox:=I4.os
    rw [xs0] at ox
    have hok4:=I4.hok
    rw [xP,xw] at hok4
    have IX:=K.call' ox un hok4 I4.bare fun b hb=>⟨(f2 b hb).2.2.2.1,(f2 b hb).2.1,(f2 b hb).2.2.2.2.1,(f2 b hb).2.2.2.2.2⟩
    have hC:P .c3=none:=by have:=I4.free;rw [xl] at this;exact this
    have lC:=K.lt
    have A:bj F2 H1 F3 P:=⟨sF,sH,E3.g.fh,nw⟩
    have ap3:Apart σ _ As:=fun j us p j1 j2 m=>by
     obtain⟨v,k1,p',vs',rfl,k2,_⟩:=R.sl j _ j1
     rw [j2] at k1;cases k1
     rw [(fr _ m).1] at k2;cases k2
    refine hpost _ _ _ ⟨⟨P,F3,vs,As,IX,R.grow A,(sF1.trans sF2).trans sF,fD,hD,R.g.sH.free hD1,f,nd,fun a ha=>⟨R.g.sH.free (fr a ha).1,(fr a ha).2⟩,ap3,hC⟩,⟨m4,hm4⟩,za6 (zaQ lC),zaG K.sz (zbu _),
     fun x c hxc=>by obtain⟨v,z⟩:=K.cell x c hxc;exact zat (zaQ z.lt),fun p hp=>zat (zaQ (Heap.lt_size (K.pin p hp).1)),fun j us p j1 j2=>?_⟩
    obtain⟨v,k1,p',vs',rfl,k2,_⟩:=R.sl j _ j1
    rw [j2] at k1;cases k1
    exact bp k2 hD1
  ·refine⟨0,cq no cap σ,upd H1 s2.heap.objs.size _,F2,cq no cap _,[],[],[],Ib,Tn.keep _ _ _ st2 fun b hb o e=>Dy e,fun b hb=>?_,R.block ha (R.g.fh.trans (dC hD1)),ha,R.g.fh.free hD1,aM,⟨⟨rfl,rfl⟩,zbD,fun a ha=>by cases ha⟩,aW.refl _,dC hD1,fun a o z=>.inl z,za4 _,rfl,e3⟩
   obtain⟨o,e,_⟩:=Tn.obj 0 _ st2 b hb
   rw [ay (zat .aF)]
   exact (f2 b hb).1
 have fin:∀{C:Addr} {cs:List _},C=s2.heap.objs.size+1->cs=cellsFrom (s2.heap.objs.size+2) scope.names .aD ->
   codeAny _ X.A (.compStart _ 0 _ _ _) (post _ C) { s2 with heap:=h0 s2.heap scope }:=fun {C cs} h1 h2=>by
  subst h1 h2
  exact codeAny_compStart_list loop (Tn.self _ 0 _ _ _ (Tn.keep _ _ _ st2 fun b hb o e=>Dy e) loop)
 exact fin hz (by rw [<- hz2])
noncomputable def nZ (no:Nat)(cap:.D)(fi:FA)(fg:FG)(ft:FT)(fe:uQ):uQ:=fun τ=>(fi τ).bind fun p =>
 if bE .bK=true then (ie fg ft fe p.1 .bK []).bind fun us=>some (.lst us,frzAll cap p.2) else none
theorem rZ.fin {pins:.v}{σ:L2.St}{Y0 Y9 F:Hp}{τ:aE}{rs:List O}{D C:Addr}{s:Shared}(Z:rZ X pins σ Y0 Y9 F τ rs D C s):
  ∃(H F3:Hp) (As:.af),Inv X pins σ H s/\aJ X.K Y0 Y9 F3 H σ τ/\aW F F3/\iU X.K F3 H (.al rs) (.c D) As/\As.Nodup/\(∀a∈As,Y9 a=none)/\Apart σ τ As/\H C=none:=by
 obtain⟨H,F3,vs,As,S,T,sF,h,A,g,f,nd,h0,ap,L⟩:=Z.ex
 refine⟨H,F3,D::As,S,T,sF,⟨D,vs,As,rfl,rfl,A,h,f⟩,za0.mpr ⟨fun m=>(h0 D m).2 rfl,nd⟩,fun a ha=>?_,fun j us p e1 e2 m=>?_,L⟩
 ·rcases zao.mp ha with rfl | ha
  ·exact g
  ·exact (h0 a ha).1
 ·rcases zao.mp m with rfl | m
  ·exact Z.ow j us _ e1 e2 rfl
  ·exact ap j us p e1 e2 m
theorem A9 {elt tg iter:Expr}{l:.av}{scope:Scope}{pos:Pos}{N':.V}{no:Nat}{cap:.D}{fi:FA}{fg:FG}{ft:FT}{fe:uQ}(hx:X.xe=fun _ _=>False)(U:.bt)(B:.f7)(J:.cf)
  (d:∀(k j:Nat),cap[k]? = some j->∃x,N'[no+k]? = some x/\X.N[j]? = some x/\(x,NameKind.free)∈scope.names) (hi:.db)
  (M:∀C cs Y8 Y9 fp pins,SG .y tg fg) (Y:∀C cs Y8 Y9 fp pins,EF .y l ft) (he:∀C cs Y8 Y9 fp pins,Gm .y elt fe)
  (hs:∀x,foldedSetIterable iter X.env x=pure x:=by intro _;rfl):Gm X .au (nZ no cap fi fg ft fe):=by
 intro Y0 Y9 pins s σ H Q I ⟨F,τ,t,τ',E,e1,q⟩
 obtain⟨⟨ts,τ1⟩,e2,e1⟩:=bind_some e1
 split at e1
 ·next ha =>
  obtain⟨rs,e3,e1⟩:=bind_some e1
  cases e1
  have G:=.bq
  refine wpAny_comprehension_free rfl hs (iW G) B.kind B.names (sD hx U B J d hi M Y he I E e2 ha e3 fun D C s' Z=>?_)
  obtain⟨P,F3,As,S,T,sF,ro,nd,h0,ap,L⟩:=Z.fin
  obtain⟨m,hm⟩:=Z.ns
  refine⟨m,hm,fun h' N=>⟨.ref D,P,S.turned .eh L Z.cl (.inr Z.c0) Z.cc Z.cp,rfl,?_⟩⟩
  exact q F3 P (.c D) As T sF ro nd h0 ap
 ·cases e1
noncomputable def QW (K:.l)(Y0 Y9:Hp)(i:Nat)(f:uQ):TS:=fun D σ H=>∃F τ o τ',aJ K Y0 Y9 F H σ τ/\f τ=some (o,τ') /\
 ∀F' H' v A,aJ K Y0 Y9 F' H' σ τ'->aW F F'->iU K F' H' o v A->A.Nodup->(∀a∈A,Y9 a=none)->Apart σ τ' A->D.nx (σ.set i .di) H'
theorem AR (i:Nat){y:Str}{n h:Pos}{elt tg iter:Expr}{l:.av}{scope:Scope}{pos:Pos}{N':.V}{no:Nat}{cap:.D}{fi:FA}{fg:FG}{ft:FT}{fe:uQ}(f:.fC)(g:X.N[i]? = some y)(R:.bR)
  (hx:X.xe=fun _ _=>False) (U:.bt) (B:.f7) (J:.cf)
  (d:∀(k j:Nat),cap[k]? = some j->∃x,N'[no+k]? = some x/\X.N[j]? = some x/\(x,NameKind.free)∈scope.names) (hi:.db)
  (M:∀C cs Y8 Y9 fp pins,SG .y tg fg) (Y:∀C cs Y8 Y9 fp pins,EF .y l ft) (he:∀C cs Y8 Y9 fp pins,Gm .y elt fe)
  (W:swapsWith .au (.Z y n) h.line X.env=pure true:=by rfl) (hs:∀x,foldedSetIterable iter X.env x=pure x:=by intro _;rfl) (Y0 Y9:Hp):
  PS X (.Assign [.Name y n] .au h) (QW X.K Y0 Y9 i (nZ no cap fi fg ft fe)):=by
 intro pins s σ H Dn I ⟨F,τ,r,τ',E,e1,q⟩
 obtain⟨⟨ts,τ1⟩,e2,e1⟩:=bind_some e1
 split at e1
 ·next ha =>
  obtain⟨rs,e3,e1⟩:=bind_some e1
  cases e1
  have G:=.bq
  rw [exec_Assign_Name_used _ _ _ _ W]
  refine .ey
  refine .f (.Q (sD hx U B J d hi M Y he I E e2 ha e3 fun D C s' Z=>?_))
  obtain⟨P,F3,As,S,T,sF,ro,nd,h0,ap,L⟩:=Z.fin
  obtain⟨m,hm⟩:=Z.ns
  refine (.aW (ng S f g (.inl R) (v:=.ref D) rfl (fun p t w=>?_) (.inr R)))
  obtain⟨a,N,u⟩:=w
  have K:C≠a:=fun z=>by
   subst z
   rcases u with z | z
   ·exact Z.cl z
   ·exact Z.cc _ _ z rfl
  refine⟨m,hm.sameBut N K,fun h' A=>⟨_,P,t.turned (fun b o hb e=>(A.2 b hb).trans e) L Z.cl (.inr Z.c0) Z.cc Z.cp,?_⟩⟩
  exact q F3 P _ As T sF ro nd h0 ap
 ·cases e1
end
def mf (H:Hp)(A:.af):Hp:=fun a=>if a∈A then none else H a
theorem jo {H:Hp}{A:.af}{a:Addr}(h:a∈A):mf H A a=none:=if_pos h
theorem bW {H:Hp}{A:.af}{a:Addr}(h:a∉A):mf H A a=H a:=if_neg h
theorem wc {H:Hp}{A:.af}:aW (mf H A) H:=fun a o e=>by
 by_cases m:a∈A
 ·rw [jo m] at e;cases e
 ·rw [bW m] at e;exact e
section
variable {K:.l}{Y0 Y9 F₁ H₁ F H F' H':Hp}{σ:L2.St}{τ:aE}
theorem aJ.back (E:aJ K F₁ H₁ F H σ τ)(ha:bE τ=true)(g:bj Y0 Y9 F₁ H₁):aJ K Y0 Y9 F H σ τ:=by
 refine⟨g.trans E.g,E.len,fun i sl e=>?_,fun i j ts us p _ e1=>absurd e1 (eO ha)⟩
 obtain⟨v,h1,h2⟩:=E.sl i sl e
 cases sl with
 |sh t=>exact⟨v,h1,h2⟩
 |own ts=>exact absurd e (eO ha)
theorem aJ.to (E:aJ K F₁ H₁ F H σ τ)(ha:bE τ=true)(sF:aW F F')(g:bj Y0 Y9 F' H'):aJ K Y0 Y9 F' H' σ τ:=by
 refine⟨g,E.len,fun i sl e=>?_,fun i j ts us p _ e1=>absurd e1 (eO ha)⟩
 obtain⟨v,h1,h2⟩:=E.sl i sl e
 cases sl with
 |sh t=>exact⟨v,h1,Rep.mono sF h2⟩
 |own ts=>exact absurd e (eO ha)
end
section
variable {X:Cx}{e:Expr}{f:FE}{ft:FT}{es:.av}{g:FA}
theorem SE.any (h:.gF):PE X e (fun σ H Q=>∃Y0 Y9,tE X.K Y0 Y9 f σ H Q):=fun pins s σ H Q I ⟨Y0,Y9,q⟩=>h Y0 Y9 pins s σ H Q I q
theorem ST.any (h:ST X e ft):PT X e (fun σ H Q=>∃Y0 Y9,tT X.K Y0 Y9 ft σ H Q):=fun pins s σ H Q I ⟨Y0,Y9,q⟩=>h Y0 Y9 pins s σ H Q I q
end
section
variable {X:Cx}
noncomputable def boolsOf:List T->Option (List Bool)
 |[]=>some []
 | .bl b::r=>(boolsOf r).bind fun bs=>some (b::bs)
 |_=>none
noncomputable def kA:List T->Option T
 |[.lst ts]=>(boolsOf ts).bind fun bs=>some (.bl (bs.all id))
 |_=>none
theorem vX {K:.l}{F:Hp}:∀{ts:List T} {bs:List Bool} {vs:List V} {G:.S},boolsOf ts=some bs->aU K F ts vs->Vals vs G->G=bs.map Value.bool
 |[],bs,vs,G,e,r,z=>by
  cases e;cases r;cases z;rfl
 |t::ts,bs,vs,G,e,r,z=>by
  obtain⟨v,w,rfl,h1,h2⟩:=r
  unfold boolsOf at e
  split at e
  ·next he=>cases he
  ·next b d he =>
   cases he
   obtain⟨o,e1,e2⟩:=bind_some e
   cases e2
   cases h1
   cases z with
   |cons a c =>
    cases a
    rw [vX e1 h2 c]
    rfl
  ·cases e
theorem Kq {s:Shared}{h':Heap}{o:Obj}(hk:∀b x,b∉[s.heap.objs.size]->(s.heap.push o).get? b=some x->h'.get? b=some x):∀b x,s.heap.get? b=some x->h'.get? b=some x:=
 fun b x e=>hk b x (fun hm=>by rw [zac.mp hm] at e;exact zaP _ .aF) (.H e)
theorem range_all (bs:List Bool):((List.range bs.length).all fun i=>(bs[i]?).getD true)=bs.all id:=by
 induction bs with
 |nil=>rfl
 |cons b bs A =>
  rw [zaj,List.range_succ_eq_map,List.all_cons,zch]
  simp only [List.all_cons,id]
  congr 1
theorem pT (U:.bt):gY X (.builtin "all") kA:=by
 intro pins s σ H xs us Q I L ⟨F,ts,t,sm,r,e,q⟩
 unfold kA at e
 split at e
 ·obtain⟨bs,e1,e2⟩:=bind_some e
  cases e2
  obtain⟨v,w,rfl,⟨p,vs,rfl,h1,h2⟩,rfl⟩:=r
  obtain⟨u,rfl,W⟩:=Vals.one L
  cases W
  obtain⟨G,f,pl,hz⟩:=I.list .fa
  have hb:=vX e1 h2 f
  subst hb
  have hl:=pl.isList
  have O:@LT.lt Nat _ p s.heap.objs.size:=by obtain⟨_,e,_⟩:=hl;exact Heap.lt_size e
  refine call_all_walk (wpAny_pyIter_list hl ?_)
  refine⟨s.heap.objs.size,[s.heap.objs.size,p],[s.heap.objs.size],(bs.map Value.bool).toArray.size,_,_,fun i=>(bs[i]?).getD true,rfl,PySem.Walks.list (A:=X.A.in1) .cX _ p (zat O) (bs.map Value.bool).toArray,
   ⟨.d6,hl.push _⟩,fun i v s' d Z j B=>?_,fun h' tk hk=>?_⟩
  ·have a:(bs.map Value.bool)[i]? = some v:=by simpa using j
   rw [za5] at a
   cases C:bs[i]? with
   |none=>rw [C] at a;cases a
   |some b =>
    rw [C] at a
    have:=(zaT a).symm
    subst this
    simp only [C] at B
    exact wpAny_truthy_bool B
  ·have e:((List.range (bs.map Value.bool).toArray.size).all fun i=>(bs[i]?).getD true)=bs.all id:=by
    rw [zaE,zaf]
    exact range_all bs
   rw [e]
   exact⟨.bl _,H,I.kept (Kq hk),rfl,q F H _ .ai rfl⟩
 ·cases e
noncomputable def ig:List T->Option T
 |[.lst ts]=>some (.tup ts)
 |[.tup ts]=>some (.tup ts)
 |_=>none
theorem hG:gY X (.type "tuple") ig:=iV uT fun vs H Q G=>by
 obtain⟨F,ts,t,sm,r,e,q⟩:=G
 unfold ig at e
 split at e
 ·obtain⟨v,w,rfl,⟨p,xs,rfl,h1,h2⟩,rfl⟩:=r
  cases e
  refine⟨p,xs,rfl,.inl ⟨gE.of (sm _ _ h1),fun l hl=>?_⟩⟩
  have A:=bj.new .fv sm hl
  exact q _ _ _ A ⟨l,xs,rfl,nv.of aM,aU.mono A.sF h2⟩
 ·obtain⟨v,w,rfl,⟨p,xs,rfl,h1,h2⟩,rfl⟩:=r
  cases e
  exact⟨p,xs,rfl,.inr ⟨cw sm h1,q F H _ .ai ⟨p,xs,rfl,h1,h2⟩⟩⟩
 ·cases e
theorem Ky:Ow X "int.bit_length" (fun x vs H Q=>∃i,x=.int i/\vs=[]/\Q (.af (Builtin.Int.intBits i)) H):=by
 intro pins s σ H x vs v us Q I L f ⟨i,hx,c,q⟩
 subst hx;subst c
 obtain⟨t,rfl⟩:=L
 have:=f.zero
 subst this
 exact PyProof.Rows.call_int_bit_length ⟨.int _,H,.g6,.al,q⟩
def sX:T->Option T
 | .int i=>some (.af (Builtin.Int.intBits i))
 |_=>none
theorem D7 {e:Expr}{f:FE}{p2 p3:Pos}(he:.gF)(j:attributeBase e "bit_length" X.env (.Z e)=eval e X.env:=by rfl)(c:.gV=true:=by rfl):
  SE X (.Call (.Attribute e "bit_length" p2) [] [] p3) (uV sX f):=fun Y0 Y9 =>
 PE.weak (NC PySem.F.plainAttrs_int PySem.F.slot_int_bit_length PySem.F.type_int_bit_length Ky .eR j c) fun σ H Q G=>by
  obtain⟨F,τ,t,τ',E,e1,q⟩:=G
  obtain⟨⟨x,τ1⟩,e2,e1⟩:=bind_some e1
  obtain⟨z,e4,e1⟩:=bind_some e1
  cases e1
  refine⟨F,τ,x,_,E,e2,fun F1 H1 m V s1 r1=>?_⟩
  dsimp only at e4
  unfold sX at e4
  split at e4
  ·cases e4;cases r1
   exact⟨rfl,_,rfl,rfl,q F1 H1 _ V s1 rfl⟩
  ·cases e4
theorem eM {x:Str}{i:Int}{t:Tok}{pos:Pos}(M:Gl X x)(hm:X.mg x=some (.ag i t))(hd:.M=false:=by decide):SE X .cI (fC .eA):=gz (ph (v:=.int i) M hm .al hd) fun _=>rfl
noncomputable def aX (f:FE):FA:=fun τ=>(f τ).bind fun p=>match p.1 with | .lst ts=>some (ts,p.2) | .scr ts=>some (ts,p.2) | .tup ts=>some (ts,p.2) | _=>none
theorem cg {tg l:Expr}{f:FE}(h:SE X l f):SI X tg l (aX f):=by
 intro Y0 Y9 pins s σ H R I ⟨F,τ,ts,τ',E,e1,q⟩
 obtain⟨⟨x,τ1⟩,e2,e1⟩:=bind_some e1
 dsimp only at e1
 split at e1
 ·exact Eg h Y0 Y9 pins s σ H R I ⟨F,τ,ts,τ',E,by unfold BW;rw [e2];exact e1,q⟩
 ·exact Eg h Y0 Y9 pins s σ H R I ⟨F,τ,ts,τ',E,by unfold BW;rw [e2];exact e1,q⟩
 ·exact N6 h Y0 Y9 pins s σ H R I ⟨F,τ,ts,τ',E,by unfold G7;rw [e2];exact e1,q⟩
 ·cases e1
end
theorem J5 {P:.ah}{w:World}{K:.l}{mg:.H}{base:Heap}{x qual:Str}{st:Stmt}{f:Addr}{fd:.eX}{N ps:.V}{k:Nat}{fb:FS}(F:.dt)(S:.g9)
  (h:∀(cdv:Value) (A:Around) (outer:.eW) (s:Shared) (H:Hp) (E:XK),ff k .aG->Bs (sJ uP P w K mg base N qual (ax st) f cdv A outer s H E).nox (fw st) fb):
  iS P w K mg base uP (k+1) f fd ps (spT K ps.length (cj N.length ps.length fb)):=by
 refine F.ok S (fun vs H Q E z=>z.1) .cL
 obtain⟨hl,F1,ts,t,sm,r,e,q⟩:=z
 unfold cj at e
 split at e
 ·next hn =>
  obtain⟨B,e1,e⟩:=bind_some e
  refine⟨_,h cdv A outer s H E hr F1 H,F1,_,B,?_,e1,?_⟩
  ·have:=kf (N:=N) sm r
   rw [hn] at this
   exact this
  ·cases B with
   |rt u=>cases e;exact fun F' H' v g B=>q F' H' v g B
   |nx τ=>cases e;exact fun F' H' σ' Z s'=>q F' H' .non Z.g rfl
   |bk τ=>cases e
   |ct τ=>cases e
 ·cases e
theorem SS.any {X:Cx}{st:Stmt}{fs:FS}(h:SS X st fs):PS X st (fun D σ H=>∃Y0 Y9,tS X.K Y0 Y9 fs D σ H):=fun pins s σ H D I ⟨Y0,Y9,q⟩=>h Y0 Y9 pins s σ H D I q
section
variable {K:.l}{F0 H0 F H F1 H1:Hp}{p:Addr}{os:List O}{A:.af}
def BA:List O->Bool
 |[]=>true
 | .val _::r=>BA r
 |_::_=>false
theorem cQ.plain:∀{ro:List O} {ws:List V} {C:.af},BA ro=true->cQ K F H ro ws C->C=[]/\aU K F (O.trs ro) ws
 |[],ws,C,_,h=>⟨h.2,h.1⟩
 | .val t::r,ws,C,ha,h=>by
  obtain⟨v,q,B,D,rfl,rfl,⟨rfl,h1⟩,h2⟩:=h
  obtain⟨rfl,W⟩:=cQ.plain (ro:=r) ha h2
  exact⟨rfl,v,q,rfl,h1,W⟩
 | .lst _::r,ws,C,ha,h=>by cases ha
theorem uB:∀(ts:List T),O.trs (ts.map O.val)=ts
 |[]=>rfl
 |t::ts=>by rw [zag,O.trs,uB ts];rfl
end
noncomputable def Ur (K:.l)(n:Nat)(d:.gG):Sp:=fun vs H Q _=>vs.length=n/\∃F ts o,aW F H/\aU K F ts vs/\d ts=some o /\
 ∀F' H' v A,bj F H F' H'->iU K F' H' o v A->A.Nodup->(∀a∈A,H a=none)->Q v H'
structure zA (P:.ah)(w:World)(K:.l)(mg:.H)(base:Heap)(k:Nat)(x:Str)(n:Nat)(d:.gG):Prop where
 ex:∃f fd ps,iS P w K mg base uP k f fd ps (Ur K n d)/\Binds K fd ps []/\PySem.W.keepIn K (.c f)=true/\mg x=some (.c f)/\ps.length=n
section
variable {P:.ah}{w:World}{K:.l}{mg:.H}{base:Heap}{j k n:Nat}{x:Str}
theorem zA.mono {d:.gG}(D:zA P w K mg base j x n d)(h:j≤k):zA P w K mg base k x n d:=by
 obtain⟨f,fd,ps,F,r⟩:=D.ex
 exact⟨f,fd,ps,F.mono h,r⟩
end
section
variable {X:Cx}{e:Expr}{es:.av}{pos:Pos}{g:FA}
def mi (d:.gG)(g:FA):uQ:=fun τ=>(g τ).bind fun p=>(d p.1).bind fun o=>some (o,p.2)
theorem GD {K:.l}{Y0 Y9 F H:Hp}{σ:L2.St}{τ:aE}{A:.af}(E:.aC)(n:∀a∈A,H a=none):Apart σ τ A:=fun j us q e1 e2 m=>by
 obtain⟨v,k1,P,u,rfl,k2,_⟩:=E.sl j _ e1
 rw [e2] at k1;cases k1
 rw [n _ m] at k2;cases k2
theorem A8 {k n:Nat}{x:Str}{p:Pos}{d:.gG}(D:zA X.prog X.w X.K X.mg X.base k x n d)(hr:ff k X.A)(M:Gl X x)(ha:SA X (e::es) g)(hl:∀τ ts τ',g τ=some .gS->ts.length=n)(v:.M=false:=by decide)
  (he:starEach (e::es) X.env=(.m e)::starEach es X.env:=by rfl) (l:(backTo pos .br).any (·.1)=false:=by rfl):Gm X .aP (mi d g):=by
 obtain⟨f,fd,ps,F,hb,hk,hm,hn⟩:=D.ex
 intro Y0 Y9
 refine PE.weak (DV F hr M hm hk hb .nil AO .cb v he l) fun σ H Q h=>?_
 obtain⟨F,τ,c,τ',E,e1,q⟩:=h
 obtain⟨⟨z,τ1⟩,e2,e1⟩:=bind_some e1
 obtain⟨u,e4,e1⟩:=bind_some e1
 cases e1
 refine⟨F,τ,z,_,E,e2,fun F1 H1 vs V s1 r1=>⟨by rw [zaA,r1.length];exact (hl _ _ _ e2),F1,z,c,V.g.fh,by rw [zaA];exact r1,e4,fun F3 P j A r r3 nd h0=>?_⟩⟩
 exact q F3 P j A (V.grow r) (s1.trans r.sF) r3 nd (fun a ha=>V.g.sH.free (h0 a ha)) (GD V h0)
abbrev LQ:=aE->Option O
noncomputable def Uz (K:.l)(Y0 Y9:Hp)(f:LQ):TS:=fun D σ H=>∃F τ o,aJ K Y0 Y9 F H σ τ/\f τ=some o/\∀F' H' v A,bj Y0 Y9 F' H'->iU K F' H' o v A->A.Nodup->(∀a∈A,Y9 a=none)->D.rt v H'
def Tu (X:Cx)(u:.bB)(f:LQ):Prop:=∀Y0 Y9,mY X u (Uz X.K Y0 Y9 f)
def Dm (f:uQ):LQ:=fun τ=>(f τ).bind fun p=>some p.1
theorem Lz {f:uQ}(h:Gm X e f):Tu X [.Return (some e) pos] (Dm f):=fun Y0 Y9=>mY.weak (yO (IP .c8)) fun D σ H G=>by
 obtain⟨F,τ,o,E,e1,q⟩:=G
 obtain⟨⟨x,τ1⟩,e2,e1⟩:=bind_some e1
 cases e1
 exact⟨F,τ,_,τ1,E,e2,fun F' H' v A Z _ r nd h0 _=>q F' H' v A Z.g r nd h0⟩
noncomputable def Po (t:FS)(u:LQ):LQ:=fun τ=>(t τ).bind fun r=>match r with | .nx τ'=>u τ' | _=>none
end
noncomputable def JW (m n:Nat)(fb:LQ):List T->Option O:=fun ts=>if ts.length=n then fb (.B (m-n)) else none
section
variable {P:.ah}{w:World}{K:.l}{mg:.H}{base:Heap}
theorem J0 {x qual:Str}{st:Stmt}{f:Addr}{fd:.eX}{N ps:.V}{k:Nat}{fb:LQ}(F:.dt)(S:.g9)(hb:Binds K fd ps [])(hm:mg x=some (.c f))
  (h:∀(cdv:Value) (A:Around) (outer:.eW) (s:Shared) (H:Hp) (E:XK),ff k .aG->Tu (sJ uP P w K mg base N qual (ax st) f cdv A outer s H E).nox (fw st) fb):
  zA P w K mg base (k+1) x ps.length (JW N.length ps.length fb):=by
 refine⟨f,fd,ps,F.ok S (fun vs H Q E z=>z.1) .cL,hb,F.kp,hm,rfl⟩
 obtain⟨hl,F1,ts,o,sm,r,e,q⟩:=z
 unfold JW at e
 split at e
 ·next hn =>
  refine⟨_,h cdv A outer s H E hr F1 H,F1,_,o,?_,e,fun F' H' v A g ro nd h0=>q F' H' v A g ro nd h0⟩
  have:=kf (N:=N) sm r
  rw [hn] at this
  exact this
 ·cases e
end
section
variable {X:Cx}{e:Expr}{es:.av}{pos:Pos}{g:FA}
noncomputable def MQ (fo:uQ)(g:FA)(d:O->List T->Option T):FE:=fun τ=>(fo τ).bind fun p=>if bE p.2=true then (g p.2).bind fun r=>if bE r.2=true then (d p.1 r.1).bind fun t=>some (t,r.2) else none else none
noncomputable def G3 (fo:uQ)(f:FE):FS:=fun τ=>(fo τ).bind fun p=>match p.1 with
 | .lst os=>if bE p.2=true/\os.length<sizeLine then (f p.2).bind fun r=>if bE r.2=true then some (.nx r.2) else none else none
 |_=>none
theorem A6 {x:Str}{a:Addr}{i j:Int}{t t':Tok}{od:.cZ}{n:Nat}{sl:Array (Option Value)}{pos:Pos}(M:Gl X x)(hm:X.mg x=some (.c a))(Y:X.K.lookup a=some ⟨.aM, od,.seq #[.int i t,.int j t'] n,sl⟩)(hd:.M=false:=by decide):
  SE X .cI (fC (.tup [.int i,.int j])):=
 gz (ph (v:=.ref a) M hm rfl hd) fun F=>⟨a,[.int i,.int j],rfl,.inr ⟨_,_,n,Y,rfl,rfl,aR (n:=2) .f,.cons .al (.ar .al)⟩,⟨_,_,rfl,rfl,_,_,rfl,rfl,rfl⟩⟩
noncomputable def xT:T->T->Option T
 | .lst ts,.int k=>if (-(2^63)≤k/\k<2^63)/\ts.length*k.toNat≤sizeLine then some (.aw ts) else none
 |_,_=>none
theorem AX {K:.l}{F:Hp}{ts:List T}{vs:List V}(h:.gO):∀k:Nat,aU K F (List.replicate k ts).flatten (List.replicate k vs).flatten
 |0=>rfl
 |k+1=>by
  exact h.append (AX h k)
theorem Ir:lZ X (binaryOp .Mult) xT:=by
 intro pins s σ H x y v u Q I L Z ⟨F,a,b,t,sm,m,D,e,q⟩
 unfold xT at e
 split at e
 ·next ts k =>
  split at e
  ·next U =>
   cases e
   obtain⟨p,xs,rfl,h1,h2⟩:=m
   cases D
   refine Nw pins s σ H _ _ v u Q I L Z ⟨p,k,xs,rfl,rfl,sm _ _ h1,U.1.1,U.1.2,by rw [h2.length];exact U.2,fun l hl=>?_⟩
   have A:=bj.new (.aw xs) sm hl
   exact q _ _ _ A ⟨l,_,rfl,aM,aU.mono A.sF (AX h2 _)⟩
  ·cases e
 ·cases e
end
section
variable {X:Cx}
end
section
variable {prog:.ah}{w:World}{A:Around}{E:.o}{s:Shared}
end
section
variable {X:Cx}
end
section
variable {prog:.ah}{w:World}{A:Around}{R:.dR}{I:Addr}{fp wr:.af}{n:Nat}{P:Nat->Value->Prop}{St:Nat->Heap->Prop}{kw:.d5}
end
section
variable {prog:.ah}{w:World}{A:Around}{E:.o}{s:Shared}
end
section
variable {X:Cx}
end
section
variable {X:Cx}
end
theorem sk:∀ts:List T,BA (ts.map O.val)=true
 |[]=>rfl
 |_::ts=>sk ts
theorem SI.any {X:Cx}{tg e:Expr}{f:FA}(h:SI X tg e f):PI X tg e (fun σ H R=>∃Y0 Y9,tI X.K Y0 Y9 f σ H R):=fun pins s σ H R I ⟨Y0,Y9,q⟩=>h Y0 Y9 pins s σ H R I q
noncomputable def kd:T->Nat
 | .non=>1 | .bl _=>2 | .int _=>0 | .str _=>3 | .ty _=>4 | .tup _=>5 | .lst _=>5 | .scr _=>5 | .dct _ _=>5 | .obj _ _ _=>5 | .ptr _=>5 | .exc _ _ _=>5
noncomputable def Rn (us ts:List T):Bool:=us.length != ts.length||(List.zip us ts).any fun p=>kd p.1 != kd p.2
mutual
def apart (us:List T):T->Bool
 | .tup ts=>jB us ts
 | .lst ts=>Rn us ts&&jB us ts
 | .scr _=>false
 | .obj _ _ ts=>jB us ts
 | .dct _ ts=>jB us ts
 | .exc _ _ ts=>jB us ts
 |_=>true
def jB (us:List T):List T->Bool
 |[]=>true
 |t::ts=>apart us t&&jB us ts
end
noncomputable def Uj:V->Nat
 | .non=>1 | .bl _=>2 | .int _=>0 | .str _=>3 | .ty _=>4 | .ref _=>5 | _=>6
theorem P1 {K:.l}{F:Hp}{t:T}{v:V}(h:.fW):kd t=Uj v:=by
 cases t with
 |non=>rw [h];rfl
 |bl b=>rw [h];rfl
 |int b=>rw [h];rfl
 |str b=>rw [h];rfl
 |ty b=>rw [h];rfl
 |tup ts=>obtain⟨a,xs,e,_⟩:=h;rw [e];rfl
 |lst ts=>obtain⟨a,xs,e,_⟩:=h;rw [e];rfl
 |scr ts=>obtain⟨a,xs,e,_⟩:=h;rw [e];rfl
 |dct _ _=>obtain⟨a,_,_,e,_⟩:=h;rw [e];rfl
 |obj _ _ _=>obtain⟨a,_,_,e,_⟩:=h;rw [e];rfl
 |ptr _=>rw [h];rfl
 |exc _ _ _=>obtain⟨a,_,e,_⟩:=h;rw [e];rfl
theorem Nc {K:.l}{F:Hp}{t u:T}{v:V}(h:.fW)(h':Rep K F u v):kd t=kd u:=(P1 h).trans (P1 h').symm
theorem Dh {K:.l}{F:Hp}:∀{us ts:List T} {vs:List V},aU K F us vs->aU K F ts vs->Rn us ts=false
 |[],[],_,_,_=>rfl
 |[],t::ts,_,h,h'=>by
  obtain⟨v,r,e,_⟩:=h'
  rw [h] at e;cases e
 |u::us,[],_,h,h'=>by
  obtain⟨v,r,e,_⟩:=h
  rw [h'] at e;cases e
 |u::us,t::ts,_,h,h'=>by
  obtain⟨v,r,rfl,h1,h2⟩:=h
  obtain⟨v',B,e,W,N⟩:=h'
  cases e
  have A:=Dh h2 N
  unfold Rn at A ⊢
  simp only [List.zip_cons_cons,List.any_cons,Nc h1 W] at A ⊢
  simpa using A
mutual
theorem Rep.drop {K:.l}{F:Hp}{a:Addr}{us:List T}{vs:List V}(ha:F a=some .ev)(hu:aU K F us vs):∀{t:T} {v:V},apart us t=true->Rep K F t v->Rep K (mf F [a]) t v
 | .non,_,_,h=>h
 | .bl _,_,_,h=>h
 | .int _,_,_,h=>h
 | .str _,_,_,h=>h
 | .ty _,_,_,h=>h
 | .tup ts,_,k,h=>by
  obtain⟨b,xs,h1,h2,W⟩:=h
  refine⟨b,xs,h1,?_,aU.drop' ha hu .f5 W⟩
  rcases h2 with (h2 | ⟨o,h2⟩) | h2
  ·refine .inl (.inl ?_)
   rw [.bT];exact h2
  ·refine .inl (.bg ⟨o,?_⟩)
   rw [.bT];exact h2
  ·exact .inr h2
 | .lst ts,_,k,h=>by
  obtain⟨b,xs,h1,h2,W⟩:=h
  have g:Rn us ts=true/\jB us ts=true:=by simpa [apart] using k
  refine⟨b,xs,h1,?_,aU.drop' ha hu g.2 W⟩
  rw [bW (fun m=>by
   rw [zac.mp m,ha] at h2
   cases h2
   rw [Dh hu W] at g
   exact absurd g.1 .f)]
  exact h2
 | .scr _,_,k,_=>by simp [apart] at k
 | .dct ns ts,_,k,h=>by
  obtain⟨b,ob,xs,h1,h2,W,N⟩:=h
  refine⟨b,ob,xs,h1,?_,W,aU.drop' ha hu .f5 N⟩
  rw [.bT]
  exact h2
 | .obj C ns ts,_,k,h=>by
  obtain⟨b,dx,xs,h1,h2,W,N⟩:=h
  refine⟨b,dx,xs,h1,?_,W,aU.drop' ha hu .f5 N⟩
  rw [.bT]
  exact h2
 | .ptr _,_,_,h=>h
 | .exc _ _ ts,_,k,h=>by
  obtain⟨b,od,h1,h2,W⟩:=h
  refine⟨b,od,h1,?_,W.imp id fun⟨d,u,k1,k2,k3,L⟩=>⟨d,u,k1,?_,k3,aU.drop' ha hu .f5 L⟩⟩
  ·rw [.bT]
   exact h2
  ·rw [bW (fun m=>by rw [zac.mp m,ha] at k2;cases k2)]
   exact k2
theorem aU.drop' {K:.l}{F:Hp}{a:Addr}{us:List T}{vs:List V}(ha:F a=some .ev)(hu:aU K F us vs):∀{ts:List T} {ws:List V},jB us ts=true->aU K F ts ws->aU K (mf F [a]) ts ws
 |[],_,_,h=>h
 |t::ts,_,k,h=>by
  obtain⟨v,r,h1,h2,W⟩:=h
  have g:apart us t=true/\jB us ts=true:=by simpa [jB] using k
  exact⟨v,r,h1,Rep.drop ha hu g.1 h2,aU.drop' ha hu g.2 W⟩
end
theorem bj.lent {F H F' H':Hp}{a:Addr}{o:HO}(D:F a=none)(g:bj (upd F a o) H F' H'):bj F H (mf F' [a]) H':=by
 have sF:aW F (mf F' [a]):=fun b u e=>by
  have hb:b≠a:=fun z=>by rw [z,D] at e;cases e
  rw [bW .hr]
  exact g.sF b u (by rw [ay hb];exact e)
 refine⟨sF,g.sH,fun b u e=>?_,fun b u e=>?_⟩
 ·by_cases hb:b=a
  ·rw [hb,jo .bh] at e;cases e
  ·rw [bW .hr] at e
   exact g.fh b u e
 ·by_cases hb:b=a
  ·rw [hb,jo .bh] at e;cases e
  ·rw [bW .hr] at e
   rcases g.nw b u e with z | z
   ·rw [ay hb] at z;exact .inl z
   ·exact .inr z
section
variable {X:Cx}{e:Expr}{pos:Pos}
end
noncomputable def RW (K:.l)(l:Addr):It:=
  ⟨fun i H=>∃xs x,gE K H l xs/\xs[i]? = some x,
   fun i H v H'=>∃p x,v=.ref p/\H p=none/\H'=upd H p (.tup [.int i,x])/\∀xs,gE K H l xs->xs[i]? = some x,
   fun i H=>∃xs,gE K H l xs/\xs.length≤i⟩
structure T5 (e it l:Addr)(i:Nat)(h:Heap):Prop where
 he:∃old,IsEnum h e it (i:Int) old
 hi:h.IsListIter it l i
theorem Gb {P:.ah}{w:World}{K:.l}{elts:.av}{kx:Nat}{px:Pos}{e it l:Addr}(f:e≠it):
  Turn P w K .eb (RW K l) [e,it] e (T5 e it l) where
 mem:=.h
 obj:=fun i h st b hb=>by
  simp only [List.mem_cons,List.not_mem_nil,or_false] at hb
  rcases hb with rfl | rfl
  ·obtain⟨old,q⟩:=st.he
   exact⟨_,q,fun v q=>nomatch (q)⟩
  ·obtain⟨o,ho,U,hd⟩:=st.hi
   exact⟨o,ho,fun v q=>by rw [hd] at q;cases q⟩
 keep:=fun i h h' st k=>by
  obtain⟨old,q⟩:=st.he
  exact⟨⟨old,k e .h _ q⟩,st.hi.at fun o x=>k it .h o x⟩
 item:=fun X j L Y U i pins s σ H E I hf st M=>by
  subst j L Y
  obtain⟨xs,x,q1,g1⟩:=M
  obtain⟨G,r1,p1⟩:=lF (b:=true) I q1
  obtain⟨u,e1,W⟩:=r1.get g1
  obtain⟨old,he⟩:=st.he
  refine wpAny_pyNext_enum_item he st.hi p1 (by simpa using e1) f fun h' ho p N hsz hk=>⟨_,rfl,?_⟩
  refine wpAny_letOwnedTupleGo_enum ho fun h2 b1 b2=>?_
  have le:=Heap.lt_size he
  have li:it<s.heap.objs.size:=by obtain⟨_,x,_⟩:=st.hi;exact Heap.lt_size x
  have kp:∀b o,b∉[e,it]->s.heap.get? b=some o->h2.get? b=some o:=fun b o hb z=>by
   simp only [List.mem_cons,List.not_mem_nil,or_false,not_or] at hb
   exact (b2.2 b hb.1).trans (hk b o hb.1 hb.2 z)
  have pr:=(b2.2 _ (za6 le)).trans N
  have fr:=I.hok.fresh .b8
  have t:lW X.prog X.w (.O (.tup [.int i,x])) h2:=by
   intro c o z
   by_cases B:c=s.heap.objs.size
   ·subst B
    rw [aM] at z;cases z
    exact⟨by show 2≤sizeLine;decide,[.int i s.toks,u],.cons .al (.ar W),_,pr,rfl,_,rfl⟩
   ·rw [ay B] at z
    have C:∀d o',H d=some o'->d∉[e,it]:=fun d o' R hd=>by rw [(hf d hd).1] at R;cases R
    have up:∀d o',H d=some o'->upd H s.heap.objs.size (.tup [.int i,x]) d=some o':=fun d o' R=>by rw [ay (bp R fr)];exact R
    refine (I.hok c o z).stay (fun d v' hd q=>kp d v' ?_ q) (fun d q=>up d _ q) fun d xs q=>up d _ q
    rcases hd with rfl | hd
    ·exact C _ o z
    ·exact C d _ hd
  have J:Inv X pins σ (.O (.tup [.int i,x])) { s with heap:=h2,toks:=s.toks+1 }:=by
   have ne:∀b o,s.heap.get? b=some o->b≠s.heap.objs.size:=fun b o e=>zat .aF
   refine I.step (fun b hb=>?_) .hA .eS (fun b o _ e n=>by rw [ay (ne b o e)];exact n)
    .gW (fun b xs e=>by rw [ay (bp e fr)];exact e) (fun b o u e=>by rw [ay (bp e fr)];exact e) (fun b ps e=>⟨#[],by rw [ay (bp e fr),e];simp⟩) (fun m hm=>?_) t I.bare
   ·obtain⟨_,f1,_,T,f4,F⟩:=hf b hb
    exact⟨T,f1,f4,F⟩
   ·obtain⟨o,es,ep,ho,r⟩:=hm
    exact⟨o,es,ep,kp _ o (fun q=>(hf _ q).2.1 rfl) ho,r⟩
  refine⟨.ref s.heap.objs.size,_,J,rfl,⟨_,x,rfl,fr,rfl,fun a h=>by rw [I.list_inj h q1];exact g1⟩,⟨⟨u,by simpa using b1⟩,p.at fun o z=>(b2.2 it (.a2 f)).trans z⟩,fun b hb=>?_⟩
  have:b≠s.heap.objs.size:=by grind
  rw [ay this]
  exact (hf b hb).1
 done:=fun X j L Y U i pins s σ H E I hf st M=>by
  subst j L Y
  obtain⟨xs,q1,g⟩:=M
  obtain⟨G,r1,p1⟩:=lF (b:=true) I q1
  obtain⟨old,he⟩:=st.he
  have O:=r1.length
  refine wpAny_pyNext_enum_end .cX he st.hi p1 .j fun h' k=>⟨rfl,uC I hf fun b o hb e=>?_⟩
  simp only [List.mem_cons,List.not_mem_nil,or_false,not_or] at hb
  exact k b o hb.2 e
 self:=fun _ _ _ _ _ st h=>by
  obtain⟨old,he⟩:=st.he
  exact wpAny_pyIter_enum he h
def Di (k:Nat):List T->List T
 |[]=>[]
 |t::ts=>.tup [.int k,t]::Di (k+1) ts
theorem sQ:∀(ts:List T) (k:Nat),(Di k ts).length=ts.length
 |[],_=>rfl
 |t::ts,k=>by simp [Di,sQ ts]
theorem xJ:∀(ts:List T) (k i:Nat) (t:T),(Di k ts)[i]? = some t->∃u,ts[i]? = some u/\t=.tup [.int ((k+i:Nat):Int),u]
 |[],_,_,_,h=>by simp [Di] at h
 |u::ts,k,0,t,h=>by
  simp [Di] at h
  exact⟨u,rfl,by simp [h]⟩
 |u::ts,k,i+1,t,h=>by
  obtain⟨v,e1,e2⟩:=xJ ts (k+1) i t (by simpa [Di] using h)
  exact⟨v,by simpa using e1,by rw [e2];congr 4;omega⟩
theorem CT {K:.l}{F:Hp}{l:Addr}{xs:List V}{ts:List T}(h1:gE K F l xs)(h2:aU K F ts xs):Walks K F (Di 0 ts) (RW K l):=by
 refine⟨fun i t F1 H1 e s1 s2=>?_,fun i t F1 H1 x H2 e s1 s2 y=>?_,fun F1 H1 s1 s2=>⟨xs,(s1.trans s2).seq h1,by rw [sQ,h2.length];exact zap _⟩⟩
 ·obtain⟨u,e1,_⟩:=xJ ts 0 i t e
  obtain⟨v,g1,_⟩:=h2.get e1
  exact⟨xs,v,(s1.trans s2).seq h1,g1⟩
 ·obtain⟨p,v,rfl,hp,rfl,q1⟩:=y
  obtain⟨u,e1,rfl⟩:=xJ ts 0 i t e
  obtain⟨v',g1,k1⟩:=h2.get e1
  have g:=q1 xs ((s1.trans s2).seq h1)
  rw [g1] at g;cases g
  have A:=bj.new (.tup [.int i,v]) s2 hp
  exact⟨_,A,p,_,rfl,nv.of aM,.int i,[v],rfl,by show V.int _=V.int _;rw [Nat.zero_add],v,[],rfl,Rep.mono .gT k1,rfl⟩
noncomputable def sU (g:FA):FA:=fun τ=>(g τ).bind fun p=>match p.1 with
 |[.lst ts]=>some (Di 0 ts,p.2)
 |_=>none
theorem Lv {X:Cx}{a:Expr}{p pos:Pos}{ga:FA}{elts:.av}{kx:Nat}{px:Pos}(M:Gl X "enumerate")(hm:X.mg "enumerate" = none)(ha:SA X [a] ga)(hs:starEach [a] X.env=[(.m a)]:=by rfl):
  SI X .eb (.Call (.Name "enumerate" p) [a] [] pos) (sU ga):=by
 intro Y0 Y9 pins s σ H R I ⟨F,τ,ts,τ',E,e1,q⟩
 obtain⟨⟨x,τ1⟩,e2,e1⟩:=bind_some e1
 dsimp only at e1
 split at e1
 ·next us =>
  cases e1
  refine Call_ (my I M hm (rfl) (zaN (.J (fun vs H'=>∃l xs,vs=[.ref l]/\gE X.K H' l xs/\R (RW X.K l) H')) hs rfl))
  ·obtain⟨v1,r1,rfl,k1,rfl⟩:=B
   obtain⟨l,xs,rfl,h1,h2⟩:=k1
   exact⟨l,xs,rfl,gE.of (Z.g.fh _ _ h1),q F' H' _ Z s' (CT (gE.of h1) h2)⟩
  ·obtain⟨l,xs,rfl,h1,q1⟩:=q1
   obtain⟨u,rfl,W⟩:=r1.one
   cases W
   obtain⟨G,_,p1⟩:=lF (b:=true) O h1
   refine call_enumerate_list p1 fun h' a1 a2 a3 kp=>wpAny_pyIter_enum a1 ?_
   have J:=O.kept (t':=s1.toks) kp
   refine⟨_,[_,_],_,_,H1,rfl,J,Gb (e:=s1.heap.objs.size+1) (it:=s1.heap.objs.size) (l:=l) ?_,⟨⟨_,a1⟩,a2⟩,fun b hb=>?_,q1⟩
   ·refine (?_:@Ne Nat _ _);omega
   ·have y:s1.heap.objs.size≤b:=by grind
    exact .ak y
 ·cases e1
noncomputable def hide:aE->aE
 |[]=>[]
 |some (.own _)::τ=>none::hide τ
 |'0' t::τ=>'0' t::hide τ
 |none::τ=>none::hide τ
theorem hW:∀τ:aE,(hide τ).length=τ.length
 |[]=>rfl
 |some (.own _)::τ=>by simp [hide,hW τ]
 |'0' t::τ=>by simp [hide,hW τ]
 |none::τ=>by simp [hide,hW τ]
theorem mr:∀{τ:aE} {j:Nat} {s:Sl},(hide τ)[j]? = some (some s)->τ[j]? = some (some s)/\∃t,s=.sh t
 |[],j,s,h=>by simp [hide] at h
 |some (.own _)::τ,0,s,h=>by simp [hide] at h
 |'0' t::τ,0,s,h=>by simp [hide] at h;subst h;exact⟨rfl,t,rfl⟩
 |none::τ,0,s,h=>by simp [hide] at h
 |some (.own _)::τ,j+1,s,h=>by simpa using mr (by simpa [hide] using h)
 |'0' t::τ,j+1,s,h=>by simpa using mr (by simpa [hide] using h)
 |none::τ,j+1,s,h=>by simpa using mr (by simpa [hide] using h)
section
variable {K:.l}{Y0 Y9 F H F' H':Hp}{σ:L2.St}{τ:aE}
theorem aJ.look {i:Nat}{us:List T}{vs:List V}{a:Addr}(E:.aC)(hs:σ[i]? = some (.U a))(h2:H a=some .ev)(W:F a=none)(D:aU K F us vs):
  aJ K (upd F a .ev) H (upd F a .ev) H σ .hF:=by
 have sF:aW F (upd F a .ev):=dC W
 have sH:aW (upd F a _) H:=fun b o C=>by
  by_cases hb:b=a
  ·rw [hb,aM] at C;cases C;rw [hb];exact h2
  ·rw [ay hb] at C;exact E.g.fh b o C
 have n:Rep K _ (.al us) (.c a):=⟨a,vs,rfl,aM,aU.mono sF D⟩
 have all:∀{j:Nat} {s:Sl},((hide τ).set i (.z (.al us)))[j]? = some (some s)->(∃t,s=.sh t)/\∃v,σ[j]? = some .di/\Bx K H _ H s v:=fun {j s} e=>by
  by_cases S:i=j
  ·subst S
   by_cases hl:i<(hide τ).length
   ·rw [zam hl] at e;cases e
    exact⟨.al,_,hs,n⟩
   ·rw [List.getElem?_eq_none .j] at e;cases e
  ·rw [zan S] at e
   obtain⟨e1,t,rfl⟩:=mr e
   obtain⟨v,k1,k2⟩:=E.sl j _ e1
   exact⟨⟨t,rfl⟩,v,k1,Rep.mono sF k2⟩
 refine⟨bj.refl sH,by simp [hW,E.len],fun j s e=>(all e).2,fun j k ts ws p _ e1=>?_⟩
 obtain⟨t,z⟩:=(all e1).1
 cases z
theorem aJ.setSh {i:Nat}{t:T}{v:V}(E:.aC)(hs:σ[i]? = some .di)(r:.fW):aJ K Y0 Y9 F H σ (τ.set i (.z t)):=by
 have:=E.set (i:=i) r
 rw [show σ.set i .di=σ from by
  have hi:=(zav.mp hs).1
  apply zca
  intro j
  by_cases S:i=j
  ·subst S;rw [zam hi,hs]
  ·rw [zan S]] at this
 exact this
theorem aJ.drop {i:Nat}(E:.aC):aJ K Y0 Y9 F H σ (τ.set i none):=by
 have key:∀{j:Nat} {s:Sl},(τ.set i none)[j]? = some (some s)->τ[j]? = some (some s):=fun {j s} e=>by grind
 exact⟨E.g,by simp [E.len],fun j s e=>E.sl j s (key e),fun j k ts us p a e1 e2=>E.dj j k ts us p a (key e1) (key e2)⟩
theorem aJ.putOwn2 {i:Nat}{ts:List T}{vs:List V}{p:Addr}(E:.aC)(hp:H p=some .ev)(fp:F p=none)(h0:Y9 p=none)(c:Apart σ τ [p])(r:.gO):
  aJ K Y0 Y9 F H (σ.set i (.U p)) (τ.set i (.s ts)):=by
 refine⟨E.g,by simp [E.len],fun j s e=>?_,fun j k h us q a e1 e2 e3 e4=>?_⟩
 ·by_cases S:i=j
  ·subst S
   by_cases hl:i<τ.length
   ·rw [zam hl] at e
    cases e
    exact⟨.ref p,zam .c5,p,vs,rfl,hp,fp,h0,r⟩
   ·rw [List.getElem?_eq_none .j] at e;cases e
  ·rw [zan S] at e
   rw [zan S]
   exact E.sl j s e
 ·by_cases S:i=j
  ·subst S
   rw [zan a] at e2 e4
   by_cases hl:i<τ.length
   ·rw [zam .c5] at e3
    cases e3
    exact c k us p e2 e4 .bh
   ·rw [List.getElem?_eq_none .j] at e1;cases e1
  ·rw [zan S] at e1 e3
   by_cases hk:i=k
   ·subst hk
    by_cases hl:i<τ.length
    ·rw [zam .c5] at e4
     cases e4
     exact c j h p e1 e3 .bh
    ·rw [List.getElem?_eq_none .j] at e2;cases e2
   ·rw [zan hk] at e2 e4
    exact E.dj j k h us q a e1 e2 e3 e4
end
section
variable {X:Cx}{e:Expr}{pos:Pos}
noncomputable def sT (i:Nat)(f:FE):FE:=fun τ=>match τ[i]? with
 |some (.s us)=>(f .hF).bind fun p=>some (p.1,if apart us p.1=true then τ else τ.set i (.z (.al us)))
 |_=>f τ
theorem Lo (i:Nat){f:FE}(h:.gF):SE X e (sT i f):=fun Y0 Y9=>PE.weak h.any fun σ H Q G=>by
 obtain⟨F,τ,t,τ',E,e1,q⟩:=G
 unfold sT at e1
 split at e1
 ·next us e3 =>
  obtain⟨⟨x,τ1⟩,e2,e1⟩:=bind_some e1
  obtain⟨v,h1,a,vs,rfl,h2,W,N,D⟩:=E.sl i _ e3
  have sF:aW F (upd F a .ev):=dC W
  refine⟨upd F a _,H,upd F a _,_,x,τ1,E.look h1 h2 W D,e2,fun F' H' v' Z s' B=>?_⟩
  have ha:=s' _ _ aM
  have hu:=aU.mono (sF.trans s') D
  by_cases c:apart us x=true
  ·rw [if_pos c] at e1
   cases e1
   have gl:=bj.lent W Z.g
   exact q _ H' v' (E.grow gl) gl.sF (Rep.drop ha hu c B)
  ·rw [if_neg c] at e1
   cases e1
   have n:Rep X.K F' (.al us) (.c a):=⟨a,vs,rfl,ha,hu⟩
   have V:=E.grow (bj.lent W Z.g)
   have R:aJ X.K Y0 Y9 F' H' σ (τ.set i (.z (.al us))):=by
    have T:aJ X.K Y0 Y9 F' H' σ (τ.set i none):=by
     refine⟨⟨E.g.sF.trans (sF.trans s'),V.g.sH,Z.g.fh,fun b o C=>?_⟩,by simp [E.len],fun j s d=>?_,(E.drop).dj⟩
     ·by_cases hb:b=a
      ·exact .bg (by rw [hb];exact N)
      ·rcases Z.g.nw b o C with z | z
       ·rw [ay hb] at z
        rcases E.g.nw b o z with y | y
        ·exact .inl y
        ·exact .inr y
       ·exact .bg (E.g.sH.free z)
     ·obtain⟨w,k1,k2⟩:=(V.drop).sl j s d
      refine⟨w,k1,?_⟩
      have k:aW (mf F' [a]) F':=wc
      cases s with
      |sh t=>exact Rep.mono k k2
      |own ts =>
       obtain⟨p,ws,rfl,P,J,r,l⟩:=k2
       refine⟨p,ws,rfl,P,?_,r,aU.mono k l⟩
       have S:i≠j:=fun z=>by grind
       rw [zan S] at d
       have g:p≠a:=fun z=>by subst z;exact E.dj i j us ts p S e3 d h1 k1
       rw [bW (fun m=>g (zac.mp m))] at J
       exact J
    have:=T.setSh h1 n
    rwa [List.set_set] at this
   exact q F' H' v' R (sF.trans s') B
 ·exact⟨Y0,Y9,F,τ,t,τ',E,e1,q⟩
end
section
variable {P:.ah}{w:World}{K:.l}{mg:.H}{base:Heap}
end
theorem nW (fg:FG)(ft:FT)(fe:FE):∀(ts:List T) (τ:aE) (acc us:List T),dM fg ft fe ts τ acc=some us->ie fg ft (uW fe) ts τ (acc.map O.val)=some (us.map O.val)
 |[],_,acc,us,h=>by cases h;rfl
 |t::ts,τ,acc,us,h=>by
  obtain⟨τ1,e1,h⟩:=bind_some h
  obtain⟨p,e2,h⟩:=bind_some h
  unfold ie
  rw [e1,zaa,e2,zaa]
  split at h
  ·next hp =>
   obtain⟨q,e3,h⟩:=bind_some h
   rw [if_pos hp,show uW fe p.2=some _ from by unfold uW;rw [e3];rfl,Option.bind_some]
   split at h
   ·next hq =>
    rw [if_pos ⟨hq.1,by rw [zaf];exact hq.2⟩]
    have:=nW fg ft fe ts q.2 _ us h
    rw [zay] at this
    exact this
   ·cases h
  ·next hp =>
   rw [if_neg hp]
   split at h
   ·next hq =>
    rw [if_pos hq]
    exact nW fg ft fe ts p.2 acc us h
   ·cases h
theorem Dk {no:Nat}{cap:.D}{fi:FA}{fg:FG}{ft:FT}{fe:FE}{τ τ':aE}{us:List T}(h:bq no cap fi fg ft fe τ=some (.lst us,τ')):nZ no cap fi fg ft (uW fe) τ=some (.lst (us.map O.val),τ'):=by
 obtain⟨p,e1,h⟩:=bind_some h
 unfold nZ
 rw [e1,zaa]
 split at h
 ·next ha =>
  obtain⟨vs,e2,h⟩:=bind_some h
  cases h
  rw [if_pos ha,show ie fg ft (uW fe) p.1 _ []=some _ from nW fg ft fe _ _ [] us e2]
  rfl
 ·cases h
theorem EX {no:Nat}{cap:.D}{fi:FA}{fg:FG}{ft:FT}{fe:FE}{τ τ':aE}{t:T}(h:bq no cap fi fg ft fe τ=some (t,τ')):∃us,t=.lst us:=by
 obtain⟨p,e1,h⟩:=bind_some h
 split at h
 ·obtain⟨vs,e2,h⟩:=bind_some h
  cases h
  exact⟨_,rfl⟩
 ·cases h
section
variable {X:Cx}
theorem bR {elt tg iter:Expr}{l:.av}{scope:Scope}{pos:Pos}{N':.V}{no:Nat}{cap:.D}{fi:FA}{fg:FG}{ft:FT}{fe:FE}(hx:X.xe=fun _ _=>False)(U:.bt)(B:.f7)(J:.cf)
  (d:∀(k j:Nat),cap[k]? = some j->∃x,N'[no+k]? = some x/\X.N[j]? = some x/\(x,NameKind.free)∈scope.names) (hi:.db)
  (M:∀C cs Y8 Y9 fp pins,SG .y tg fg) (Y:∀C cs Y8 Y9 fp pins,EF .y l ft) (he:∀C cs Y8 Y9 fp pins,SE .y elt fe)
  (hs:∀x,foldedSetIterable iter X.env x=pure x:=by intro _;rfl):SE X .au (bq no cap fi fg ft fe):=fun Y0 Y9=>PE.weak (Gm.se (A9 hx U B J d hi M Y (fun C cs Y8 Y9 fp pins=>SE.seo (he C cs Y8 Y9 fp pins)) hs) Y0 Y9) fun σ H Q G=>by
 obtain⟨F,τ,t,τ',E,e1,q⟩:=G
 obtain⟨us,rfl⟩:=EX e1
 refine⟨F,τ,_,τ',E,?_,q⟩
 unfold Tz
 rw [Dk e1,zaa]
 show some (T.lst _,τ')=_
 rw [uB]
theorem gQ {i:Nat}{y:Str}{n h:Pos}{elt tg iter:Expr}{l:.av}{scope:Scope}{pos:Pos}{N':.V}{no:Nat}{cap:.D}{fi:FA}{fg:FG}{ft:FT}{fe:FE}(f:.fC)(g:X.N[i]? = some y)(R:.bR)
  (hx:X.xe=fun _ _=>False) (U:.bt) (B:.f7) (J:.cf)
  (d:∀(k j:Nat),cap[k]? = some j->∃x,N'[no+k]? = some x/\X.N[j]? = some x/\(x,NameKind.free)∈scope.names) (hi:.db)
  (M:∀C cs Y8 Y9 fp pins,SG .y tg fg) (Y:∀C cs Y8 Y9 fp pins,EF .y l ft) (he:∀C cs Y8 Y9 fp pins,SE .y elt fe)
  (W:swapsWith .au (.Z y n) h.line X.env=pure true:=by rfl) (hs:∀x,foldedSetIterable iter X.env x=pure x:=by intro _;rfl):
  SS X (.Assign [.Name y n] .au h) (cU i no cap fi fg ft fe):=fun Y0 Y9=>PS.weak (AR i f g R hx U B J d hi M Y (fun C cs Y8 Y9 fp pins=>SE.seo (he C cs Y8 Y9 fp pins)) W hs Y0 Y9) fun D σ H G=>by
 obtain⟨F,τ,r,E,e1,q⟩:=G
 obtain⟨p,e2,e1⟩:=bind_some e1
 split at e1
 ·next ha =>
  obtain⟨us,e3,e1⟩:=bind_some e1
  cases e1
  refine⟨F,τ,.lst _,frzAll cap p.2,E,Dk (by unfold bq;rw [e2,Option.bind_some,if_pos ha,e3];rfl),fun F' H' v A Z s' ro nd h0 c=>?_⟩
  obtain⟨u,vs,P,rfl,rfl,k1,k2,k3⟩:=ro
  obtain⟨rfl,L⟩:=cQ.plain (sk us) k3
  rw [uB] at L
  exact q F' H' _ (aJ.putOwn2 Z k1 k2 (h0 u zad) c L) s'
 ·cases e1
end
section
variable {prog:.ah}{w:World}{A:Around}{E:.o}{s:Shared}
theorem Fy:typeLookup (.type "list_reverseiterator") "__len__" = pure none:=by
 rw [typeLookup_type];kernel_rfl
theorem Hx:typeLookup (.type "list_reverseiterator") "__length_hint__" = pure (some (.builtin "list_reverseiterator.__length_hint__")):=by
 rw [typeLookup_type];kernel_rfl
theorem BV {I:Addr}{fp wr:.af}{G:Array GenState->Array GenState->Prop}{n:Nat}{P:Nat->Value->Prop}{St:Nat->Shared->Prop}{R:.dR}(W:WalksS prog w A.in1 I fp wr G n P St)(N:∀i s,St i s->s.TypeIs (.c I) "list_reverseiterator")(S:Addr)(res:Value)(l:Nat)(J:St 0 s)(k:S∉fp)(hI:I∈fp)
  (hS:s.heap.get? S=some { cls:=.type "list", data:=.seq #[] l }) (hn:n≤sizeLine)
  (u:∀s' a g,Moved (S::wr) G s s'->s'.heap.get? S=some { cls:=.type "list", dict:=none,data:=.seq a g,slots:=#[] }->ItemsOf P a n->R (.ok (.ret res)) s'):
  wpAny .Q A.in1 (Builtin.List.listExtendWith (.c S) (.c I) res)
   (fun fin s'=>match fin with | .done f=>R (.ok f) s' | .again g=>g.quiet=true/\codeAny .Q A g R s') (fun e s'=>R (.error e) s') s:=by
 have o:S≠I:=fun e=>k (e ▸ hI)
 have k1:Builtin.List.listSameRef (.c S) (.c I)=false:=by simp [Builtin.List.listSameRef,o]
 unfold Builtin.List.listExtendWith
 refine wpAny_bind (wpAny_typeOf (N 0 _ J) ?_);rw [if_neg (by rw [k1];decide)]
 refine wpAny_bind (W.self 0 _ _ _ J (.G (wpAny_holding ?_)));unfold Builtin.List.listLengthHint
 refine wpAny_bind (wpAny_specialOf (N 0 _ J) Fy ?_);show wpAny _ A.in1 (specialOf (Value.ref I) (Str.ofString "__length_hint__") >>= _) _ _ _;refine wpAny_bind (wpAny_specialOf (N 0 _ J) Hx ?_)
 refine wpAny_bind (wpAny_isInstance (b:=true) (N 0 _ J) (by rw [isSubtype_type];kernel_rfl) .b0);rw [if_neg .f]
 exact .ao ⟨plainId_quiet F.plain_extend_loop _,codeAny_extend_loopS W hn _ k _ n 0 _ _ _ rfl (za4 _) J hS (ItemsOf.nil P) fun s' a g hm p h=>u s' a g hm p h⟩
theorem uS {I l:Addr}{items:.cv}{Q:.o}(S:A.handled=none)(d:l≠I)(n:s.heap.IsRevIter I l ((items.size:Int)-1))(hl:s.heap.IsList l items)(hn:items.size≤sizeLine)
  (B:∀(s':Shared) (acc:.cv) (c:Nat),Moved [s.heap.objs.size,I] (fun a b=>b=a) { s with heap:=s.heap.push { cls:=.type "list", data:=.seq #[] } } s' ->
   s'.heap.get? s.heap.objs.size=some { cls:=.type "list", dict:=none,data:=.seq acc c,slots:=#[] }->acc.size=items.size->(∀(j:Nat) v,acc[j]? = some v->items[items.size-1-j]? = some v)->Q .a6 s'):
  wpAny .Q A (call .hJ [.ref I]) Q E s:=by
 have W:=(PySem.Walks.listRev (prog:=prog) (w:=w) (A:=A.in1.in1) S I l d items).toS
 have l1:l<s.heap.objs.size:=by obtain⟨o,e,_⟩:=hl;exact Heap.lt_size e
 have l2:I<s.heap.objs.size:=by obtain⟨o,e,_⟩:=n;exact Heap.lt_size e
 have k:s.heap.objs.size∉[I,l]:=fun m=>by
  simp only [List.mem_cons,List.not_mem_nil,or_false] at m
  rcases m with z | z
  ·exact zaP _ (z ▸ l2)
  ·exact zaP _ (z ▸ l1)
 have J:(fun (i:Nat) (s:Shared)=>i≤items.size/\s.heap.IsRevIter I l ((items.size:Int)-1-(i:Int))/\s.heap.IsList l items) 0 s:=⟨Nat.zero_le _,by simpa using n,hl⟩
 refine callType_codes (Q₁:=fun obj g=>obj=.ref s.heap.objs.size/\g={ s with heap:=s.heap.push { cls:=.type "list", data:=.seq #[] } }) F.called_list (F.typeCall_list_1 _) F.entry_list_init (code_list_new _ ⟨rfl,rfl⟩) fun obj g f=>?_
 obtain⟨rfl,rfl⟩:=f
 have hS:(s.heap.push { cls:=.type "list", data:=.seq #[] }).get? s.heap.objs.size=some { cls:=.type "list", data:=.seq #[] }:=.ac
 refine⟨⟨_,hS,rfl⟩,F.args_list_init_2 _ _,?_⟩
 show wpAny _ A.in1.in1 (do let old <- Builtin.List.listItems .a6;Builtin.List.listUpdate .a6 (fun _=>#[]);letGo old.toList.reverse;Builtin.List.listExtendWith .a6 (.c I) .none) _ _ _
 refine wpAny_bind ?_
 unfold Builtin.List.listItems
 refine .f (wpAny_seqItems hS rfl (.aU (wpAny_bind ?_)))
 show wpAny _ A.in1.in1 (updateSeq s.heap.objs.size (fun _=>#[])) _ _ _
 refine wpAny_updateSeq hS rfl (.G (wpAny_letGo ?_))
 have q:=Heap.get?_update_self .fT hS rfl
 have Iv:∀b o,b≠s.heap.objs.size->(s.heap.push { cls:=.type "list", data:=.seq #[] }).get? b=some o->((s.heap.push { cls:=.type "list", data:=.seq #[] }).update s.heap.objs.size .fT).get? b=some o:=fun b o hb e=>(Heap.get?_update_other _ _ (.a2 hb)).trans e
 have keep:∀b∈[I,l],∀o,s.heap.get? b=some o->((s.heap.push { cls:=.type "list", data:=.seq #[] }).update s.heap.objs.size .fT).get? b=some o:=fun b hb o e=>Iv b o (fun z=>k (z ▸ hb)) (.H e)
 refine BV W (fun i s st=>st.2.1.typeIs) s.heap.objs.size .none _ (W.frame 0 s _ s.toks J (Nat.le_refl _) keep) k .h q hn fun s' acc c hm p h=>?_
 refine⟨rfl,B s' acc c ?_ p h.1 (fun j v e=>h.2 j v e)⟩
 refine⟨fun b o hb e=>hm.heap b o hb (Iv b o (fun z=>hb (z ▸ zad)) e),hm.gens,hm.drawn,hm.os,hm.toks⟩
end
section
variable {X:Cx}
noncomputable def zQ (g:FA):FE:=fun τ=>(g τ).bind fun p=>match p.1 with
 |[.lst ts]=>some (.lst ts.reverse,p.2)
 |_=>none
theorem Jy {xs:List V}{G acc:.S}(r:Vals xs G)(hn:acc.length=G.length)(h:∀(j:Nat) v,acc[j]? = some v->G[G.length-1-j]? = some v):Vals xs.reverse acc:=by
 have e:acc=G.reverse:=by
  refine zca fun j=>?_
  by_cases S:j<acc.length
  ·rw [zas S,List.getElem?_reverse .e,h j _ (zas S)]
  ·rw [List.getElem?_eq_none .e,List.getElem?_eq_none .j]
 subst e
 clear h hn
 induction r with
 |nil=>exact .nil
 |cons r1 r2 A =>
  rw [zbo,zbo]
  exact A.append (.ar r1)
theorem CF {a:Expr}{p P pos pos':Pos}{ga:FA}(U:.bt)(M:Gl X "reversed")(hm:X.mg "reversed" = none)(V:Gl X "list")(h:X.mg "list" = none)(ha:SA X [a] ga)(hs:starEach [a] X.env=[(.m a)]:=by rfl)
  (g:starEach [.Call (.Name "reversed" p) [a] [] pos] X.env=[(.m (.Call (.Name "reversed" p) [a] [] pos))]:=by rfl):
  SE X (.Call (.Name "list" P) [.Call (.Name "reversed" p) [a] [] pos] [] pos') (zQ ga):=by
 intro Y0 Y9 pins s σ H Q I ⟨F,τ,t,τ',E,e1,q⟩
 obtain⟨⟨x,τ1⟩,e2,e1⟩:=bind_some e1
 dsimp only at e1
 split at e1
 ·next us =>
  cases e1
  refine Call_ (my I V h (show bootBuiltins "list" = some .hJ from rfl) (zaN ?_ g rfl))
  rw [g]
  refine Calls.spliced_cons (Call_ (my I M hm boot_reversed (zaN (.J (fun vs H'=>∃l xs,vs=[.ref l]/\gE X.K H' l xs/\∀p,H' p=none->Q (.c p) (upd H' p (.lst xs.reverse)))) hs rfl)))
  ·obtain⟨v1,r1,rfl,k1,rfl⟩:=B
   obtain⟨l,xs,rfl,h1,h2⟩:=k1
   refine⟨l,xs,rfl,gE.of (Z.g.fh _ _ h1),fun p hp=>?_⟩
   have A:=bj.new (.lst xs.reverse) Z.g.fh hp
   exact q _ _ _ (Z.grow A) (s'.trans A.sF) ⟨p,_,rfl,aM,aU.mono A.sF h2.rev⟩
  ·obtain⟨l,xs,rfl,h1,q1⟩:=q1
   obtain⟨u,rfl,W⟩:=r1.one
   cases W
   obtain⟨G,f,pl,hz⟩:=O.list h1
   have hlen:=f.length
   refine call_reversed_list pl.isList (Calls.spliced_nil ?_)
   have hn:({ s1 with heap:=s1.heap.push .gy }:Shared).heap.IsRevIter s1.heap.objs.size l ((G.toArray.size:Int)-1):=⟨_,Heap.get?_push_size _ rfl,rfl,rfl⟩
   have n:l<s1.heap.objs.size:=by obtain⟨o,e,_⟩:=pl.isList;exact Heap.lt_size e
   refine uS .cX (zat n) hn (pl.isList.at fun o e=>Heap.get?_push_of_some _ e) (by rw [zaE,<- hlen];exact hz) fun s' acc c d e1 e2 e3=>?_
   have sz:(s1.heap.push .gy).objs.size=s1.heap.objs.size+1:=.hM
   have kp:∀b o,s1.heap.get? b=some o->s'.heap.get? b=some o:=fun b o e=>by
    have k:b<s1.heap.objs.size:=Heap.lt_size e
    refine d.heap b o (fun m=>?_) (.H (Heap.get?_push_of_some _ e))
    simp only [List.mem_cons,List.not_mem_nil,or_false] at m
    rcases m with z | z
    ·rw [z] at k
     exact zaP _ (zaS k (by rw [sz];exact zbg _))
    ·exact zaP _ (z ▸ k)
   have es:s'={ s1 with heap:=s'.heap,toks:=s'.toks }:=by
    have g1:=d.gens;have g2:=d.drawn;have g3:=d.os
    cases s';cases s1
    simp only at g1 g2 g3
    subst g1 g2 g3
    rfl
   rw [es]
   have fr:=O.hok.fresh (show s1.heap.objs.size≤(s1.heap.push .gy).objs.size by rw [sz];exact zbu _)
   refine⟨.ref _,_,O.laid (t':=s'.toks) kp (by rw [sz];exact zbu _) (show dE X.prog X.w _ s'.heap _ (.lst xs.reverse) from ⟨by rw [zbZ];exact hz,acc.toList,c,Jy f (by rw [zbF,e2,zaE]) (fun j v e=>?_),by rw [Array.toArray_toList];exact e1⟩),rfl,q1 _ fr⟩
   have:=e3 j v .fE
   simpa using this
 ·cases e1
end
section
variable {X:Cx}
def xR:T->T->Option T
 |a,.non=>some (.bl (!DF a))
 |_,_=>none
theorem Io:lZ X (compareOp .IsNot) xR:=by
 intro pins s σ H x y v u Q I L Z ⟨F,a,b,t,sm,m,D,e,q⟩
 unfold xR at e
 split at e
 ·cases e;cases D
  exact KY pins s σ H _ _ v u Q I L Z ⟨rfl,by rw [wy m];exact q F H _ .ai rfl⟩
 ·cases e
end
noncomputable def uX (f:Str):List Str->List T->Option T
 |n::ns,t::ts=>if f=n then some t else uX f ns ts
 |_,_=>none
theorem Dr {K:.l}{F:Hp}{f:Str}:∀{ns:.V} {ts:List T} {vs:List V} {t:T},aU K F ts vs->uX f ns ts=some t->∃v,(ns.zip vs).lookup f=some v/\Rep K F t v
 |[],_,_,_,_,e=>by cases e
 |n::ns,[],_,_,_,e=>by cases e
 |n::ns,t::ts,_,u,r,e=>by
  obtain⟨v,w,rfl,h1,h2⟩:=r
  unfold uX at e
  rw [zbJ,zbh]
  by_cases h:f=n
  ·rw [if_pos h] at e
   cases e
   rw [beq_iff_eq.mpr h]
   exact⟨v,rfl,h1⟩
  ·rw [if_neg h] at e
   rw [beq_eq_false_iff_ne.mpr h]
   exact Dr h2 e
theorem tw {f:Str}:∀{ns:.V} {vs:List V},f∉ns->(ns.zip vs).lookup f=none
 |[],_,_=>.h
 |n::ns,[],_=>.h
 |n::ns,v::vs,h=>by
  rw [zbJ,zbh,beq_eq_false_iff_ne.mpr (fun z=>h (by rw [z];exact zad))]
  exact tw fun m=>h (.aT m)
theorem AS {f:Str}{y:V}:∀{ns:.V} {vs:List V},f∉ns->vs.length=ns.length->kM f y (ns.zip vs)=(ns++[f]).zip (vs++[y])
 |[],[],_,_=>rfl
 |[],_::_,_,h=>by cases h
 |_::_,[],_,h=>by cases h
 |n::ns,v::vs,h,hl=>by
  rw [List.zip_cons_cons,show kM f y _=(if n=f then (n,y)::ns.zip vs else (n,v)::kM f y _) from rfl,if_neg (fun z=>h (by rw [z];exact List.mem_cons_self)),AS (fun m=>h (.Y m)) (by simpa using hl)]
  rfl
section
variable {X:Cx}{e:Expr}{es:.av}{pos:Pos}
noncomputable def dJ (b:.af)(f:Str)(fe:FE):FE:=fun τ=>(fe τ).bind fun p=>match p.1 with
 | .obj C ns ts=>if C∈b then (uX f ns ts).bind fun t=>some (t,p.2) else none
 |_=>none
theorem dh {b:.af}{f:Str}{fe:FE}(L:∀C∈b,eV X.K C/\bo X.K C f)(he:SE X e fe)(hb:attributeBase e f X.env (.Z e)=eval e X.env:=by rfl):SE X (.Attribute e f pos) (dJ b f fe):=
 fun Y0 Y9=>PE.weak (ND .eR hb) fun σ H Q h=>by
  obtain⟨F,τ,t,τ',E,e1,q⟩:=h
  obtain⟨⟨x,τ1⟩,e2,e1⟩:=bind_some e1
  dsimp only at e1
  split at e1
  ·next C ns ts =>
   split at e1
   ·next hm =>
    obtain⟨u,e3,e1⟩:=bind_some e1
    cases e1
    refine⟨F,τ,_,_,E,e2,fun F1 H1 v V s1 r1=>?_⟩
    obtain⟨a,dx,vs,rfl,h1,h2,W⟩:=r1
    obtain⟨w,l1,l2⟩:=Dr W e3
    exact⟨a,C,dx,_,w,rfl,V.g.fh _ _ h1,(L C hm).1,(L C hm).2,l1,q F1 H1 w V s1 l2⟩
   ·cases e1
  ·cases e1
end
structure dH (P:.ah)(w:World)(K:.l)(mg:.H)(base:Heap)(k:Nat)(C:Addr)(m:Str)(n:Nat)(d:.O):Prop where
 cl:eV K C
 ex:∃f fd ps,iS P w K mg base uP k f fd ps (spT K n d)/\Binds K fd ps []/\Meth K C m f/\ps.length=n
section
variable {P:.ah}{w:World}{K:.l}{mg:.H}{base:Heap}{j k n:Nat}{C:Addr}{m:Str}
theorem dH.mono {d:.O}(D:dH P w K mg base j C m n d)(h:j≤k):dH P w K mg base k C m n d:=by
 obtain⟨f,fd,ps,F,r⟩:=D.ex
 exact⟨D.cl,f,fd,ps,F.mono h,r⟩
theorem eD {x qual:Str}{st:Stmt}{f:Addr}{fd:.eX}{N ps:.V}{fb:FS}(F:.dt)(S:.g9)(hb:Binds K fd ps [])(cl:eV K C)(hm:Meth K C m f)
  (h:∀(cdv:Value) (A:Around) (outer:.eW) (s:Shared) (H:Hp) (E:XK),ff k .aG->Bs (sJ uP P w K mg base N qual (ax st) f cdv A outer s H E).nox (fw st) fb):
  dH P w K mg base (k+1) C m ps.length (cj N.length ps.length fb):=by
 refine⟨cl,f,fd,ps,F.ok S (fun vs H Q E z=>z.1) .cL,hb,hm,rfl⟩
 obtain⟨hl,F1,ts,t,sm,r,e,q⟩:=z
 unfold cj at e
 split at e
 ·next hn =>
  obtain⟨B,e1,e⟩:=bind_some e
  refine⟨_,h cdv A outer s H E hr F1 H,F1,_,B,?_,e1,?_⟩
  ·have:=kf (N:=N) sm r
   rw [hn] at this
   exact this
  ·cases B with
   |rt u=>cases e;exact fun F' H' v g B=>q F' H' v g B
   |nx τ=>cases e;exact fun F' H' σ' Z s'=>q F' H' .non Z.g rfl
   |bk τ=>cases e
   |ct τ=>cases e
 ·cases e
end
section
variable {X:Cx}{o e:Expr}{es:.av}{pos apos:Pos}{g:FA}{fo:FE}{k n:Nat}{m:Str}
noncomputable def qF (C:Addr):List .aW->Option (List T->Option T)
 |[]=>none
 |a::r=>if C=a.1 then some a.2 else qF C r
theorem wm {C:Addr}{d:.O}:∀{l:List .aW},qF C l=some d->(C,d)∈l
 |[],h=>by cases h
 |a::r,h=>by
  unfold qF at h
  split at h
  ·next e=>cases h;subst e;exact zad
  ·exact zae _ (wm h)
noncomputable def cv (alts:List .aW)(m:Str)(fo:FE)(g:FA):FE:=fun τ=>(fo τ).bind fun p=>match p.1 with
 | .obj C ns ts=>if m∈ns then none else (qF C alts).bind fun d=>(g p.2).bind fun q=>(d (.obj C ns ts::q.1)).bind fun t=>some (t,q.2)
 |_=>none
theorem wG {alts:List .aW}{Y0 Y9:Hp}{σ:L2.St}{H:Hp}{Q:VK}(h:tE X.K Y0 Y9 (cv alts m fo g) σ H Q)(hl:∀τ ts τ',g τ=some .gS->ts.length+1=n):
  ∃C d,(C,d)∈alts/\Jo C m (spT X.K n d) [] E0 (tE X.K Y0 Y9 fo) (tA X.K Y0 Y9 g) σ H Q:=by
 obtain⟨F,τ,t,τ',E,e1,q⟩:=h
 obtain⟨⟨x,τ1⟩,e2,e1⟩:=bind_some e1
 dsimp only at e1
 split at e1
 ·next C ns ts =>
  split at e1
  ·cases e1
  ·next hm =>
   obtain⟨d,e3,e1⟩:=bind_some e1
   obtain⟨⟨us,τ2⟩,e4,e1⟩:=bind_some e1
   obtain⟨u,e5,e1⟩:=bind_some e1
   cases e1
   refine⟨C,d,wm e3,F,τ,_,τ1,E,e2,fun F1 H1 v V s1 r1=>?_⟩
   obtain⟨a,dx,vs,rfl,h1,h2,W⟩:=id r1
   refine⟨a,dx,_,rfl,V.g.fh _ _ h1,tw hm,F1,τ1,us,_,V,e4,fun F2 H2 ws R s2 r2=>?_⟩
   refine⟨by rw [zaA,zaj,r2.length];exact hl _ _ _ e4,F2,.obj C ns ts::us,_,R.g.fh,⟨_,_,rfl,Rep.mono s2 r1,by rw [zaA];exact r2⟩,e5,fun F3 P j r r3=>?_⟩
   exact q F3 P j (R.grow r) ((s1.trans s2).trans r.sF) r3
 ·cases e1
theorem iQ {pl:Sem Bool}{alts:List .aW}(A:∀a∈alts,dH X.prog X.w X.K X.mg X.base k a.1 m n a.2)(hr:ff k X.A)(he:SE X o fo)(ha:SA X (e::es) g)(hl:∀τ ts τ',g τ=some .gS->ts.length+1=n)
  (J:starEach (e::es) X.env=(.m e)::starEach es X.env:=by rfl) (l:(backTo pos .br).any (·.1)=false:=by rfl)
  (Y:eval .e5 X.env=(do
   let z <- eval o X.env
   standAt apos.atName
   let (f,first) <- holding [z] (getMethod z m pl)
   callWith pos f first (backTo pos (starEach (e::es) X.env)) .dO):=by rfl):
  SE X .e5 (cv alts m fo g):=by
 intro Y0 Y9 pins s σ H Q I h
 obtain⟨C,d,hm,h'⟩:=wG h hl
 have D:=A _ hm
 obtain⟨f,fd,ps,Fk,hb,b,hn⟩:=D.ex
 exact K8 .eR D.cl b Fk hr hb .nil AO .cb J l Y pins s σ H Q I h'
theorem mT {pl:Sem Bool}{alts:List .aW}(A:∀a∈alts,dH X.prog X.w X.K X.mg X.base k a.1 m 1 a.2)(hr:ff k X.A)(he:SE X o fo)
  (Y:eval .gq X.env=(do
   let z <- eval o X.env
   standAt apos.atName
   let (f,first) <- holding [z] (getMethod z m pl)
   callWith pos f first (backTo pos .gx) .dO):=by rfl):
  SE X .gq (cv alts m fo ar):=by
 intro Y0 Y9 pins s σ H Q I h
 obtain⟨C,d,hm,h'⟩:=wG h (fun τ ts τ' e=>by cases e;rfl)
 have D:=A _ hm
 obtain⟨f,fd,ps,Fk,hb,b,hn⟩:=D.ex
 refine IF .eR D.cl b Fk hr hb .nil AO Y pins s σ H Q I ?_
 obtain⟨F,τ,t,τ',E,e1,q⟩:=h'
 refine⟨F,τ,t,τ',E,e1,fun F1 H1 v V s1 r1=>?_⟩
 obtain⟨a,dx,fs,h1,h2,W,F2,τ2,us,u,R,e2,q2⟩:=q F1 H1 v V s1 r1
 cases e2
 exact⟨a,dx,fs,h1,h2,W,q2 F2 H1 [] R .d9 rfl⟩
end
abbrev uM:=List Str×List T
noncomputable def Uq (K:.l)(C:Addr)(n:Nat)(d:.f8):Sp:=fun vs H Q _=>vs.length=n+1/\∃F x dx ws ts r,vs=.ref x::ws/\H x=some (.ins C dx [])/\F x=none/\aW F H/\aU K F ts ws/\d ts=some r /\
 ∀F' H' us,bj F (mf H [x]) F' H'->H' x=some (.ax (r.1.zip us))->F' x=none->us.length=r.1.length->aU K F' r.2 us->Q .non H'
structure iT (P:.ah)(w:World)(K:.l)(mg:.H)(base:Heap)(k:Nat)(x:Str)(C:Addr)(n:Nat)(d:.f8):Prop where
 ex:∃j f fd ps,k=j+1/\Mk K C f/\iS P w K mg base uP j f fd ps (Uq K C n d)/\Binds K fd ps []/\mg x=some (.c C)/\ps.length=n+1
theorem iT.mono {P:.ah}{w:World}{K:.l}{mg:.H}{base:Heap}{j k n:Nat}{x:Str}{C:Addr}{d:.f8}(D:iT P w K mg base j x C n d)(h:j≤k):iT P w K mg base k x C n d:=by
 obtain⟨i,f,fd,ps,S,M,F,r⟩:=D.ex
 exact⟨k-1,f,fd,ps,.e,M,F.mono .e,r⟩
section
variable {X:Cx}{e:Expr}{es:.av}{pos:Pos}{g:FA}
noncomputable def mj (C:Addr)(d:.f8)(g:FA):FE:=fun τ=>(g τ).bind fun p=>(d p.1).bind fun r=>some (.obj C r.1 r.2,p.2)
theorem lD {k n:Nat}{x:Str}{p:Pos}{C:Addr}{d:.f8}(D:iT X.prog X.w X.K X.mg X.base k x C n d)(hr:ff k X.A)(c:Gl X x)(ha:SA X (e::es) g)(hl:∀τ ts τ',g τ=some .gS->ts.length=n)(v:.M=false:=by decide)
  (he:starEach (e::es) X.env=(.m e)::starEach es X.env:=by rfl) (l:(backTo pos .br).any (·.1)=false:=by rfl):SE X .aP (mj C d g):=by
 obtain⟨j,f,fd,ps,S,M,Fk,hb,hm,hn⟩:=D.ex
 subst S
 intro Y0 Y9
 refine PE.weak (K7 M Fk hr c hm hb .nil AO .cb v he l) fun σ H Q h=>?_
 obtain⟨F,τ,t,τ',E,e1,q⟩:=h
 obtain⟨⟨ts,τ1⟩,e2,e1⟩:=bind_some e1
 obtain⟨r,e3,e1⟩:=bind_some e1
 cases e1
 refine⟨F,τ,ts,_,E,e2,fun F1 H1 vs V s1 r1=>fun a dx u w ne=>?_⟩
 have fa:=V.g.fh.free u
 have B:=V.g.fh.free w
 have sm:aW F1 (.V H1 a):=fun b o z=>by
  rw [ay (bp z fa),ay (bp z B)]
  exact V.g.fh b o z
 have s:aW H1 (.V H1 a):=fun b o z=>by
  rw [ay (bp z u),ay (bp z w)]
  exact z
 refine⟨by rw [zaA,zaj,r1.length,hl _ _ _ e2],F1,a,dx,vs,ts,r,by rw [zaA],aM,fa,sm,r1,e3,fun F' H' us A hx i G W=>⟨rfl,?_⟩⟩
 have sF:aW F' (upd F' a (.ax (r.1.zip us))):=dC i
 have g2:bj F1 H1 (upd F' a (.ax (r.1.zip us))) H':=by
  refine⟨A.sF.trans sF,fun b o z=>A.sH b o ?_,fun b o z=>?_,fun b o z=>?_⟩
  ·rw [bW (fun m=>by rw [zac.mp m,u] at z;cases z)]
   exact s b o z
  ·by_cases hb:b=a
   ·rw [hb,aM] at z;cases z;rw [hb];exact hx
   ·rw [ay hb] at z;exact A.fh b o z
  ·by_cases hb:b=a
   ·exact .bg (by rw [hb];exact u)
   ·rw [ay hb] at z
    rcases A.nw b o z with y | y
    ·exact .inl y
    ·rw [bW .hr] at y
     exact .bg (s.free y)
 exact q _ H' (.c a) (V.grow g2) (s1.trans g2.sF) ⟨a,dx,us,rfl,aM,G,aU.mono sF W⟩
end
abbrev FI:=aE->List Str->List T->Option uM
noncomputable def Uw (K:.l)(C x:Addr)(Y0 Y9:Hp)(f:FI):TS:=fun D σ H=>∃F τ ns us vs dx r,aJ K Y0 Y9 F H σ τ/\bE τ=true/\τ[0]? = some (.z .hK)/\H x=some (.ax (ns.zip vs))/\F x=none/\Y9 x=none/\vs.length=ns.length/\ns.length<1000/\aU K F us vs/\f τ ns us=some r /\
 ∀F' H' σ' g,bj Y0 Y9 F' H'->H' x=some (.ax (r.1.zip g))->F' x=none->g.length=r.1.length->aU K F' r.2 g->D.nx σ' H'
noncomputable def Oy (X:Cx)(C:Addr)(u:.bB)(f:Addr->FI):Prop:=∀x Y0 Y9,mY X u (Uw X.K C x Y0 Y9 (f x))
section
variable {X:Cx}{C:Addr}{e:Expr}{rest:.bB}{pos:Pos}
def B5:Addr->FI:=fun _ _ ns us=>some (ns,us)
theorem nc:Oy X C [] B5:=fun x Y0 Y9=>mY.weak rS fun D σ H h=>by
 obtain⟨F,τ,ns,us,vs,dx,r,E,ha,h0,hx,i,a,hl,hk,W,e1,q⟩:=h
 cases e1
 exact q F H σ vs E.g hx i hl W
noncomputable def lN (f:Str)(fe:FE)(fr:Addr->FI):Addr->FI:=fun x τ ns us=>(fe τ).bind fun p=>if bE p.2=true/\¬ f∈ns/\ns.length<999 then match (p.2[0]? : Option (Option Sl)) with
 |some (.z (.ptr y))=>if y=x then fr x p.2 (ns++[f]) (us++[p.1]) else none
 |_=>none else none
theorem eG {f:Str}{fe:FE}{fr:Addr->FI}{y:Str}{p1 p2:Pos}(U:eV X.K C)(hn:bo X.K C f)(R:PE X (.Name y p1) (vN 0))(he:SE X e fe)(hr:Oy X C rest fr)
  (hs:swapsWith e (some (.Attribute (.Name y p1) f p2)) pos.line X.env=pure false:=by rfl):Oy X C (.Assign [.Attribute (.Name y p1) f p2] e pos::rest) (lN f fe fr):=fun x Y0 Y9=>mY.weak (jb (NT R he.any hs) (hr x Y0 Y9)) fun D σ H h=>by
 obtain⟨F,τ,ns,us,vs,dx,r,E,ha,h0,hx,i,a,hl,hk,W,e1,q⟩:=h
 obtain⟨⟨t,τ1⟩,e2,e1⟩:=bind_some e1
 split at e1
 ·next B =>
  split at e1
  ·next p j =>
   split at e1
   ·next d =>
    subst d
    refine⟨F,H,F,τ,t,τ1,E.rebase ha E.g.fh,e2,fun F1 H1 w V s1 r1=>?_⟩
    have c:F1 p=none:=by
     cases n:F1 p with
     |none=>rfl
     |some o =>
      rcases V.g.nw _ o n with z | z
      ·rw [i] at z;cases z
      ·rw [hx] at z;cases z
    obtain⟨v0,k1,k2⟩:=E.sl 0 _ h0
    cases (k2)
    refine⟨_,k1,p,C,dx,_,rfl,(V.g.sH _ _ hx),U,hn,by rw [za1];omega,?_⟩
    rw [AS B.2.1 hl]
    have m:aJ X.K Y0 Y9 F1 (upd H1 p (.ax ((ns++[f]).zip (vs++[w])))) σ τ1:=by
     refine V.to B.1 .d9 ⟨E.g.sF.trans V.g.sF,fun b o z=>?_,fun b o z=>?_,fun b o z=>?_⟩
     ·rw [ay (fun y=>by rw [y,a] at z;cases z)]
      exact V.g.sH _ _ (E.g.sH _ _ z)
     ·rw [ay (fun y=>by rw [y,c] at z;cases z)]
      exact V.g.fh _ _ z
     ·rcases V.g.nw b o z with y | y
      ·exact E.g.nw b o y
      ·exact .bg (E.g.sH.free y)
    refine⟨F1,τ1,ns++[f],us++[t],vs++[w],dx,r,m,B.1,j,aM,c,a,by simp [hl],by rw [List.length_append];simp only [List.length_cons,List.length_nil];omega,(aU.mono V.g.sF W).append (.one r1),e1,q⟩
   ·cases e1
  ·cases e1
 ·cases e1
noncomputable def Fm (t:FS)(fr:Addr->FI):Addr->FI:=fun x τ ns us=>(t τ).bind fun r=>match r with
 | .nx τ1=>if bE τ1=true then match (τ1[0]? : Option (Option Sl)) with
  |some (.z (.ptr y))=>if y=x then fr x τ1 ns us else none
  |_=>none else none
 |_=>none
theorem yY {st:Stmt}{t:FS}{fr:Addr->FI}(J:SS X st t)(hr:Oy X C rest fr):Oy X C (st::rest) (Fm t fr):=fun x Y0 Y9=>mY.weak (jb J.any (hr x Y0 Y9)) fun D σ H h=>by
 obtain⟨F,τ,ns,us,vs,dx,r,E,ha,h0,hx,i,a,hl,hk,W,e1,q⟩:=h
 obtain⟨r1,e2,e1⟩:=bind_some e1
 refine⟨F,H,F,τ,r1,E.rebase ha E.g.fh,e2,?_⟩
 cases r1 with
 |nx τ1 =>
  dsimp only at e1
  split at e1
  ·next hs =>
   split at e1
   ·next p j =>
    split at e1
    ·next d =>
     subst d
     refine fun F1 H1 l V s1=>?_
     have c:F1 p=none:=by
      cases n:F1 p with
      |none=>rfl
      |some o =>
       rcases V.g.nw _ o n with z | z
       ·rw [i] at z;cases z
       ·rw [hx] at z;cases z
     exact⟨F1,τ1,ns,us,vs,dx,r,V.back hs E.g,hs,j,(V.g.sH _ _ hx),c,a,hl,hk,aU.mono V.g.sF W,e1,q⟩
    ·cases e1
   ·cases e1
  ·cases e1
 |rt t=>cases e1
 |bk t=>cases e1
 |ct t=>cases e1
end
noncomputable def JV (m n:Nat)(fb:Addr->FI)(ts:List T)(r:uM):Prop:=ts.length=n/\∀x:Addr,fb x ('0' .hK::(.B (m-(n+1)))) [] []=some r
open Classical in
noncomputable def dI (m n:Nat)(fb:Addr->FI):List T->Option uM:=fun ts=>if h:∃r,JV m n fb ts r then some h.choose else none
theorem wa {m n:Nat}{fb:Addr->FI}{ts:List T}{r:uM}(h:JV m n fb ts r):dI m n fb ts=some r:=by
 unfold dI
 have S:∃r,JV m n fb ts r:=⟨r,h⟩
 rw [dif_pos S]
 have h1:=S.choose_spec.2 0
 rw [h.2 0] at h1
 exact h1.symm
theorem MK {m n:Nat}{fb:Addr->FI}{ts:List T}{r:uM}(h:dI m n fb ts=some r):JV m n fb ts r:=by
 unfold dI at h
 split at h
 ·next S=>cases h;exact S.choose_spec
 ·cases h
theorem pQ:∀(ts:List T) (j:Nat),bE (ts.map (fun t=>some (Sl.sh t))++List.replicate j none)=true
 |[],0=>rfl
 |[],j+1=>by rw [zaM];exact pQ [] j
 |t::ts,j=>pQ ts j
theorem m8 {P:.ah}{w:World}{K:.l}{mg:.H}{base:Heap}{k n:Nat}{x m:Str}{C:Addr}{qual:Str}{st:Stmt}{f:Addr}{fd:.eX}{N ps:.V}{fb:Addr->FI}(F:.dt)(S:.g9)(hb:Binds K fd ps [])(M:Mk K C f)(hm:.fA)(hn:ps.length=n+1)
  (h:∀(cdv:Value) (A:Around) (outer:.eW) (s:Shared) (H:Hp) (E:XK),ff k .aG->Oy (sJ uP P w K mg base N qual (ax st) f cdv A outer s H E).nox C (fw st) fb):
  iT P w K mg base (k+2) m C n (dI N.length n fb):=by
 refine⟨k+1,f,fd,ps,rfl,M,F.ok S (fun vs H Q E z=>by rw [hn];exact z.1) .cL,hb,hm,hn⟩
 obtain⟨hl,F1,a,dx,ws,ts,r,rfl,hx,i,sm,b,e,q⟩:=z
 obtain⟨hlen,hf⟩:=MK e
 refine⟨_,h cdv A outer s H E hr a F1 (mf H [a]),?_⟩
 have r1:aU K F1 (.ptr a::ts) _:=⟨_,_,rfl,rfl,b⟩
 have j:bE ((T.ptr a::ts).map _++List.replicate (N.length-(T.ptr a::ts).length) none)=true:=pQ _ _
 have B:bj F1 (mf H [a]) F1 H:=⟨aW.refl _,wc,sm,fun _ _ z=>.inl z⟩
 have V:=(kf (N:=N) sm r1).to j .d9 B
 refine⟨F1,_,[],[],[],dx,r,V,j,rfl,hx,i,jo zad,rfl,.f,rfl,?_,fun F' H' σ' g g' h1 h2 W c=>q F' H' g g' h1 h2 W c⟩
 have:=hf a
 rw [<- hlen] at this
 exact this
structure jX (K:.l)(Ct C:Addr)(b:Bool):Prop where
 cl:eV K C
 ha:PySem.W.findIn K (.c C) "__class__" = some (some .cV)
 hn:PySem.W.specialIn K .cV "__get__" = some (some (.builtin "getset_descriptor.__get__"))
 htk:PySem.W.takesIn K .cV=some true
 hm:PySem.W.mroIn K C (.type "object")=some true
 kit:PySem.W.kitOne K (.c C) (.c Ct)=some b
noncomputable def findB (C:Addr):List .dz->Option Bool
 |[]=>none
 |a::r=>if C=a.1 then some a.2 else findB C r
theorem m7 {C:Addr}{d:Bool}:∀{l:List .dz},findB C l=some d->(C,d)∈l
 |[],h=>by cases h
 |a::r,h=>by
  unfold findB at h
  split at h
  ·next e=>cases h;subst e;exact zad
  ·exact zae _ (m7 h)
section
variable {X:Cx}{e:Expr}{pos:Pos}
theorem EM {Ct:Addr}:gk X .g2 (fun xs H Q=>∃a C dx fs b,xs=[.ref a,.ref Ct]/\H a=some (.ax fs)/\jX X.K Ct C b/\Q (.bl b) H):=by
 intro pins s σ H xs us Q I r h
 obtain⟨a,C,dx,fs,b,rfl,d,ok,q⟩:=h
 obtain⟨M,g,rfl,m,D⟩:=Vals.two r
 cases (D)
 exact Fp I m (.ins d ok.cl ok.ha ok.hn ok.htk ok.hm) ok.kit fun tk=>⟨.bl b,H,I.tok tk,rfl,q⟩
noncomputable def gF (tbl:List .dz)(fe:FE):FE:=fun τ=>(fe τ).bind fun p=>match p.1 with
 | .obj C _ _=>(findB C tbl).bind fun b=>some (.bl b,p.2)
 |_=>none
theorem lB {Ct:Addr}{x:Str}{p P:Pos}{fe:FE}{tbl:List .dz}(Y:∀a∈tbl,jX X.K Ct a.1 a.2)(M:Gl X "isinstance")(hm:X.mg "isinstance" = none)(c:Gl X x)(d:X.mg x=some (.c Ct))(he:SE X e fe)
  (hs:starEach [e,.Name x p] X.env=(.m e)::starEach [.Name x p] X.env:=by rfl) (n:starEach [.Name x p] X.env=(.m (.Name x p))::starEach [] X.env:=by rfl) (l:(backTo pos (starEach [.Name x p] X.env)).any (·.1)=false:=by rfl) (f:.M=false:=by decide):
  SE X (.Call (.Name "isinstance" P) [e,.Name x p] [] pos) (gF tbl fe):=fun Y0 Y9 =>
 PE.weak (AQ EM M hm (rfl) (jw .eR (jw (ph (v:=.ref Ct) c d rfl f) qg n) hs) .f .f hs l) fun σ H Q h=>by
  obtain⟨F,τ,t,τ',E,e1,q⟩:=h
  obtain⟨⟨y,τ1⟩,e2,e1⟩:=bind_some e1
  dsimp only at e1
  split at e1
  ·next C ns ts =>
   obtain⟨b,e3,e1⟩:=bind_some e1
   cases e1
   refine⟨F,τ,_,_,E,e2,fun F1 H1 v V s1 r1=>?_⟩
   obtain⟨a,dx,vs,rfl,h1,h2,W⟩:=r1
   exact⟨a,C,dx,_,b,rfl,V.g.fh _ _ h1,Y _ (m7 e3),q F1 H1 _ V s1 rfl⟩
  ·cases e1
end
section
variable {X:Cx}{e:Expr}{pos:Pos}{f:FE}
end
section
variable {K:.l}{Y0 Y9 F H F' H':Hp}{σ σ':L2.St}{τ τ':aE}{x:Nat}{p:Addr}{tss:List (List T)}{A:.af}
end
noncomputable def mx (x:Nat)(p:Addr)(τ:aE):Bool:=match τ[x]? with
 |some (.z (.ptr q))=>Nat.beq q p
 |_=>false
theorem iZ {x:Nat}{p:Addr}{τ:aE}(h:mx x p τ=true):τ[x]? = some .eu:=by
 unfold mx at h
 split at h
 ·next q e=>rw [e,Nat.eq_of_beq_eq_true h]
 ·cases h
theorem SG.any {X:Cx}{tg:Expr}{g:FG}(h:SG X tg g):PG X tg (fun v σ H Q=>∃Y0 Y9,tG X.K Y0 Y9 g v σ H Q):=fun pins s σ H v u Q I r ⟨Y0,Y9,q⟩=>h Y0 Y9 pins s σ H v u Q I r q
section
variable {X:Cx}{e:Expr}{pos:Pos}{x:Nat}
end
section
variable {K:.l}{Y0 Y9 F H F' H':Hp}{σ σ':L2.St}{τ τ':aE}{x:Nat}{p:Addr}{tss:List (List T)}{A:.af}
end
section
variable {X:Cx}{e:Expr}{pos:Pos}{x:Nat}
end
section
variable {X:Cx}{e:Expr}{pos:Pos}
end
section
variable {X:Cx}{e:Expr}{pos:Pos}
end
section
variable {X:Cx}{e:Expr}{pos:Pos}{x:Nat}
end
section
variable {X:Cx}{i j:Nat}
end
section
variable {X:Cx}
end
section
variable {X:Cx}{a b c:Expr}{fa fb fc:FE}{pos:Pos}
noncomputable def ik (g g':.cS)(fa fb fc:FE):FE:=fun τ=>(fa τ).bind fun p=>(fb p.2).bind fun q=>(g p.1 q.1).bind fun z=>match z with
 | .bl true=>(fc q.2).bind fun r=>(g' q.1 r.1).bind fun t=>some (t,r.2)
 | .bl false=>some (.bl false,q.2)
 |_=>none
theorem sC {g g':.cS}{K:.l}{Y0 Y9:Hp}{σ:L2.St}{H:Hp}{Q:VK}(h:tE K Y0 Y9 (ik g g' fa fb fc) σ H Q):CL (NZ K g) (NZ K g') (tE K Y0 Y9 fa) (tE K Y0 Y9 fb) (tE K Y0 Y9 fc) σ H Q:=by
 obtain⟨F,τ,t,τ',E,e1,q⟩:=h
 obtain⟨⟨x,τ1⟩,e2,e1⟩:=bind_some e1
 obtain⟨⟨y,τ2⟩,e3,e1⟩:=bind_some e1
 obtain⟨z,e4,e1⟩:=bind_some e1
 refine⟨F,τ,x,τ1,E,e2,fun F1 H1 m V s1 r1=>⟨F1,τ1,y,τ2,V,e3,fun F2 H2 l R s2 r2=>⟨F2,x,y,z,R.g.fh,r1.mono s2,r2,e4,fun F3 P j r r3=>?_⟩⟩⟩
 split at e1
 ·obtain⟨⟨w,u⟩,e5,e1⟩:=bind_some e1
  obtain⟨t',n,e1⟩:=bind_some e1
  cases e1
  refine⟨true,r3,?_⟩
  exact⟨F3,τ2,w,_,R.grow r,e5,fun o S i p C r4=>⟨o,y,w,_,p.g.fh,(r2.mono r.sF).mono C,r4,n,fun e d f Y r5=>q e d f (p.grow Y) (((s1.trans s2).trans r.sF).trans (C.trans Y.sF)) r5⟩⟩
 ·cases e1
  refine⟨false,r3,?_⟩
  exact q F3 P _ (R.grow r) ((s1.trans s2).trans r.sF) rfl
 ·cases e1
theorem A5 {i l:CmpOp}{g g':.cS}(ho:lZ X (.ae i) g)(f:lZ X (.ae l) g')(ha:.hf)(hb:SE X b fb)(U:SE X c fc)(hm:lastMarks [i,l] [b,c]=false:=by with_unfolding_all rfl):SE X .fH (ik g g' fa fb fc):=
 fun Y0 Y9=>PE.weak (IB ho f .cb .dE (U Y0 Y9) hm) fun _ _ _=>sC
theorem Ji {i l:CmpOp}{g g':.cS}(ho:lZ X (.ae i) g)(f:lZ X (.ae l) g')(ha:.hf)(hb:SE X b fb)(U:SE X c fc)(hm:lastMarks [i,l] [b,c]=false:=by with_unfolding_all rfl):ST X .fH (du (ik g g' fa fb fc)):=
 fun Y0 Y9=>PT.weak (IS ho f .cb .dE (U Y0 Y9) hm) fun σ H Q G=>by
  obtain⟨F,τ,k,τ',E,e1,q⟩:=G
  obtain⟨⟨x,τ1⟩,e2,e1⟩:=bind_some e1
  dsimp only at e1
  split at e1
  ·cases e1
   refine sC ⟨F,τ,_,_,E,e2,fun F' H' v Z s' B=>?_⟩
   exact⟨k,B,q F' H' Z s'⟩
  ·cases e1
end
section
variable {K:.l}{Y0 Y9 F H F' H':Hp}{σ σ':L2.St}{τ τ':aE}{A:.af}
end
section
variable {X:Cx}{r t x:Nat}{rn tn xn:Str}{p1 p2 p3 p4 p5 p6 pos:Pos}
end
section
variable {K:.l}{Y0 Y9 F H F' H':Hp}{σ σ':L2.St}{τ τ':aE}{A:.af}{x:Nat}{o:O}{v:V}
end
section
variable {X:Cx}{r t x:Nat}{rn tn xn:Str}{p1 p2 p3 p4 p5 p6 pos q1 q2 q3 q4 q5 q6 pos':Pos}
end
section
variable {K:.l}{Y0 Y9 F H F' H':Hp}{σ σ':L2.St}{τ τ':aE}{x:Nat}{p:Addr}{os:List O}{A:.af}
end
section
variable {X:Cx}{e:Expr}{pos:Pos}{x:Nat}
end
section
variable {X:Cx}{e:Expr}{pos:Pos}
end
section
variable {X:Cx}{e:Expr}{pos:Pos}
end
section
variable {P:.ah}{w:World}{K:.l}{mg:.H}{base:Heap}{j k n:Nat}{C:Addr}{m:Str}
end
section
variable {X:Cx}{o e:Expr}{pos apos:Pos}{fo:FE}{k n:Nat}{m:Str}
end
section
variable {X:Cx}{x y:Nat}{e:Expr}{pos:Pos}
end
section
variable {K:.l}{Y0 Y9 F H F' H':Hp}{σ σ':L2.St}{τ τ':aE}{A:.af}{o:O}{v:V}
end
section
variable {X:Cx}{x y:Nat}{e:Expr}{pos:Pos}
end
section
variable {X:Cx}{es:.av}{pos:Pos}
noncomputable def Sg (K:.l)(n:Nat)(t:JC):TG:=fun v σ H Q=>∃a xs,v=.ref a/\gE K H a xs/\xs.length=n/\t xs σ H Q
theorem NN {k:Nat}{t:JC}{n:Nat}(U:.bt)(h:Ox X es t)
  (hn:(assignEach es X.env).length=n:=by rfl) (J:(assignEach es X.env).findIdx? (·.1)=none:=by rfl):PG X .f3 (Sg X.K n t):=by
 intro pins s σ H v u Q I r L
 obtain⟨a,xs,e1,hq,hl,L⟩:=L
 subst e1
 cases r
 obtain⟨G,f,Y,hz⟩:=I.list hq
 refine .f (wpAny_standAt ?_)
 unfold unpack
 rw [J,show (assignEach es X.env).length=G.toArray.size by simp [hn,<- hl,f.length]]
 refine .f (wpAny_holding (PySem.W.kun_itemsOf .cX Y.isList fun h' hx=>?_))
 have O:=I.kept (t':=s.toks) fun b o e=>hx b o (zat .aF) e
 exact h pins _ σ H xs _ Q O (by simpa using f) L
def Ma (gs:.bH):FG:=fun t τ=>match t with
 | .lst ts=>gs ts τ
 |_=>none
theorem N4 {gs:.bH}{k:Nat}{n:Nat}(U:.bt)(h:Mv X es gs)(hl:∀ts τ τ',gs ts τ=some τ'->ts.length=n)
  (hn:(assignEach es X.env).length=n:=by rfl) (J:(assignEach es X.env).findIdx? (·.1)=none:=by rfl):SG X .f3 (Ma gs):=
 fun Y0 Y9 pins s σ H v u Q I r h'=>NN U .c8 hn J pins s σ H v u Q I r (by
  obtain⟨F,τ,t,τ',E,rt,e1,q⟩:=h'
  unfold Ma at e1
  split at e1
  ·next ts =>
   obtain⟨p,xs,rfl,h1,h2⟩:=rt
   exact⟨p,xs,rfl,gE.of (E.g.fh _ _ h1),by rw [h2.length];exact hl _ _ _ e1,F,τ,ts,τ',E,h2,e1,q⟩
  ·cases e1)
end
structure XI where
 C:Addr
 ns:List Str
 ts:List T
abbrev FX:=aE->Option (XI×aE)
noncomputable def LS (K:.l)(Y0 Y9 F:Hp)(od:.cZ)(c:XI):Prop:=(c.ns=[]/\c.ts=[]/\od=none)\/∃d us,od=some d/\F d=some (.xd (c.ns.zip us))/\us.length=c.ns.length/\aU K F c.ts us/\∀p,V.ref p∈us->Y0 p=none/\Y9 p=none
noncomputable def R4 (b:Bool)(X:Cx)(pins:.v)(Y0 Y9 F:Hp)(c:XI)(τ':aE)(e:Value)(s':Shared):Prop:=
 ∃σ' F' H' od,((b=true/\Made X pins σ' H' c.C od e s')\/OS X pins σ' H' c.C od e s')/\aJ X.K Y0 Y9 F' H' σ' τ'/\aW F F'/\LS X.K Y0 Y9 F' od c
noncomputable def Tv (b:Bool)(X:Cx)(u:.bB)(i:FX):Prop:=∀Y0 Y9 pins s σ H F τ C τ',Inv X pins σ H s->aJ X.K Y0 Y9 F H σ τ->i τ=some (C,τ')->wpAny .t X.A (execs u X.env) .aE (R4 b X pins Y0 Y9 F C τ') s
section
variable {P:.ah}{w:World}{K:.l}{mg:.H}{base:Heap}{j k n:Nat}{x:Str}{C:Addr}{dx:List T->Option XI}
end
section
variable {X:Cx}{e:Expr}{es:.av}{pos:Pos}{g:FA}{b:Bool}
def Pm:FX:=fun _=>none
theorem Of {u:.bB}:Tv b X u Pm:=fun Y0 Y9 pins s σ H F τ C τ' I E e1=>by cases e1
end
section
variable {X:Cx}{e:Expr}{pos:Pos}{g:FA}
end
section
variable {P:.ah}{w:World}{K:.l}{mg:.H}{base:Heap}
end
abbrev LP:=XI->aE->Option R
noncomputable def Q6 (X:Cx)(hs:List ExceptHandler)(fh:LP):Prop:=∀Y0 Y9 pins s5 σ H F τ c od a r Dn E,pO X pins σ H c.C od a s5->aJ X.K Y0 Y9 F H σ τ->LS X.K Y0 Y9 F od c->fh c τ=some r->pN X.K Y0 Y9 F Dn r ->
 wpAny .t X.A (.aQ hs) .hH E s5
structure By (K:.l)(D:Addr)(tbl:List .dz):Prop where
 cls:∃bD iD,lY K D bD iD/\bD.contains .fe=true
 all:∀a∈tbl,∃bC iC,lY K a.1 bC iC/\(Value.ref a.1::bC).contains (.c D)=a.2
noncomputable def G4 (fb:FS)(i:FX)(fh:LP):FS:=fun τ=>match fb τ with
 |some r=>some r
 |none=>(i τ).bind fun p=>fh p.1 p.2
def L6:LP:=fun _ _=>none
noncomputable def Dp (tbl:List .dz)(fh:FS)(more:LP):LP:=fun c τ=>(findB c.C tbl).bind fun b=>if b=true then fh τ else more c τ
section
variable {X:Cx}{pos:Pos}
theorem N5:Q6 X [] L6:=fun Y0 Y9 pins s5 σ H F τ c od a r Dn E z V y e q=>by cases e
theorem Ht {K:.l}{Y0 Y9 F H:Hp}{σ:L2.St}{τ:aE}{a:Addr}{φ:Heap->Prop}(R:.aC)(u:H a=none):bj F H (upd F a (.ext φ)) (.aj a (.ext φ)):=by
 have b:=R.g.fh.free u
 exact⟨fun c o e=>by rw [ay (bp e b)];exact e,fun c o e=>by rw [ay (bp e u)];exact e,fun c o e=>by
  by_cases U:c=a
  ·rw [U] at e ⊢
   rw [aM] at e ⊢
   exact e
  ·rw [ay U] at e ⊢
   exact R.g.fh _ _ e,fun c o e=>by
  by_cases U:c=a
  ·exact .bg (by rw [U];exact u)
  ·rw [ay U] at e
   exact .inl e⟩
theorem Jd {suite:.bB}{Y6:Stmt}{x:Str}{np d:Pos}{D:Addr}{tbl:List .dz}{fh:FS}{more:LP}{hs:List ExceptHandler}
  (M:Gl X x) (hm:X.mg x=some (.c D)) (tk:By X.K D tbl) (S:∀a,Bs (X.inS (.c a)) (Y6::suite) fh) (hr:Q6 X hs more) (v:.M=false:=by decide):
  Q6 X (.ExceptHandler (.Z x np) none (Y6::suite) d::hs) (Dp tbl fh more):=by
 intro Y0 Y9 pins s5 σ H F τ c od a r Dn E z V y e q
 obtain⟨bD,iD,O,j⟩:=tk.cls
 obtain⟨b,e1,e⟩:=bind_some e
 obtain⟨bC,iC,I,f⟩:=tk.all _ (m7 e1)
 cases b with
 |false =>
  rw [if_neg zaR] at e
  exact Fi z I O j f M hm (hr Y0 Y9 pins s5 σ H F τ c od a r Dn E z V y e q) v
 |true =>
  rw [if_pos rfl] at e
  refine B4 z I O j f M hm (fun s2 u K=>?_) v
  have A:=Ht (φ:=oG a c.C od) V u
  exact S a Y0 Y9 pins s2 _ _ Dn K ⟨_,_,r,V.grow A,e,q.mono A.sF⟩
theorem Oa {body:.bB}{h0:ExceptHandler}{hs:List ExceptHandler}{fb:FS}{i:FX}{fh:LP}(hx:∀e s,X.xe e s->False)(J:X.stack=X.env::X.outer)(hf:X.env.frame=some X.env.locals)
  (hb:Bs X body fb) (b:Tv false X body i) (S:Q6 X (h0::hs) fh):SS X (.Try body (h0::hs) [] [] pos) (G4 fb i fh):=by
 intro Y0 Y9 pins s σ H Dn I z
 obtain⟨F,τ,r,E,e1,q⟩:=z
 unfold G4 at e1
 split at e1
 ·next B C =>
  cases e1
  refine wpAny_Try_except (wpAny_mono (hb Y0 Y9 pins s σ H Dn I ⟨F,τ,_,E,C,q⟩) (fun f s1 z=>?_) fun e s z=>False.elim (hx e s z))
  cases f with
  |next =>
   obtain⟨σ',H',l,z⟩:=z
   exact rS pins s1 σ' H' Dn l z
  |ret v=>exact z
  |brk=>exact z
  |cont=>exact z
 ·obtain⟨⟨c,τ1⟩,ex,e1⟩:=bind_some e1
  refine wpAny_Try_except (wpAny_mono (b Y0 Y9 pins s σ H F τ c τ1 I E ex) (fun _ _ z=>z.elim) fun h s1 z=>?_)
  obtain⟨σ',F',H',od,z,R,sF,y⟩:=z
  rcases z with ⟨z,_⟩ | z
  ·cases z
  exact BE J hf z fun a s5 d g=>S Y0 Y9 pins s5 σ' H' F' τ1 c od a r Dn _ g R y e1 (q.mono sF)
end
section
variable {X:Cx}{e:Expr}{pos:Pos}
end
section
variable {X:Cx}{e:Expr}{pos:Pos}
end
section
variable {X:Cx}{es:.av}{pos:Pos}
noncomputable def wu (gs:.bH):FG:=fun t τ=>match t with
 | .lst ts=>gs ts τ
 | .tup ts=>gs ts τ
 |_=>none
theorem Jb {gs:.bH}{k:Nat}{n:Nat}(U:.bt)(h:Mv X es gs)(hl:∀ts τ τ',gs ts τ=some τ'->ts.length=n)
  (hn:(assignEach es X.env).length=n:=by rfl) (J:(assignEach es X.env).findIdx? (·.1)=none:=by rfl):SG X .f3 (wu gs):=by
 intro Y0 Y9 pins s σ H v u Q I r h'
 obtain⟨F,τ,t,τ',E,rt,e1,q⟩:=h'
 cases t with
 |lst ts=>exact N4 U h hl hn J Y0 Y9 pins s σ H v u Q I r ⟨F,τ,.lst ts,τ',E,rt,e1,q⟩
 |tup ts=>exact eS U h hl hn J Y0 Y9 pins s σ H v u Q I r ⟨F,τ,.tup ts,τ',E,rt,e1,q⟩
 |_=>cases e1
end
noncomputable def LY (K:.l)(C:Addr)(bm:.S)(ini:.dC):Bool:=match K.lookup C with
 | some ⟨.type t,_,.cls ⟨_,_,mro,N,_,_,_,_,_,_,hd⟩,⟨[_,_,_,_,some (.builtin a),_]⟩⟩=>t == "type"&&decide (mro=.ref C::bm)&&!hd&&a == "ValueError.__new__"&&(match K.lookup N with
  |some ⟨_,_,.dict es _,_⟩=>es.all (fun e=>match e.key with | .str _ _=>true | _=>false)&&decide (nsFind es "__init__" = ini)
  | _=>false)
 |_=>false
theorem lY.of {K:.l}{C:Addr}{bm:.S}{ini:.dC}(h:LY K C bm ini=true):lY K C bm ini:=by
 unfold LY at h
 split at h
 ·next t dd nm bs b N q hdct sn sub ab col hd k0 k1 k2 k3 a k5 e1 =>
  simp only [Bool.and_eq_true,beq_iff_eq,decide_eq_true_eq,Bool.not_eq_true'] at h
  obtain⟨⟨⟨⟨rfl,rfl⟩,rfl⟩,rfl⟩,h⟩:=h
  split at h
  ·next c d es ep sl e2 =>
   simp only [Bool.and_eq_true,decide_eq_true_eq] at h
   exact⟨N,nm,q,bs,hdct,sn,sub,ab,col,_,k0,k1,k2,k3,k5,_,es,ep,e1,e2,rfl,h.1,h.2⟩
  ·cases h
 ·cases h
section
variable {X:Cx}{r t:Nat}{rn tn:Str}{p1 p2 p3 p4 p5 p6 pos q1 q3 q4 q5 q6 pos':Pos}
end
section
variable {K:.l}{Y0 Y9 F H:Hp}{σ:L2.St}{τ:aE}{A:.af}
end
section
variable {X:Cx}{t x:Nat}{tn xn:Str}{q1 q2 p1 p2 p3 p4 p5 r1 r2 r3 r4 r5 r6 r7 r8 r9 pos':Pos}
end
section
variable {X:Cx}{t x y:Nat}{tn xn yn:Str}{q1 q2 p1 p2 p3 p4 p5 r1 r2 r3 r4 r5 r6 r7 r8 r9 pos' a1 a2 c1 c2:Pos}
end
section
variable {P:.ah}{w:World}{K:.l}{mg:.H}{base:Heap}{j k n:Nat}{x:Str}
end
section
variable {X:Cx}{e a b:Expr}{es:.av}{pos:Pos}{g:FA}{k n:Nat}
end
section
variable {X:Cx}{x:Nat}{xn:Str}{r1 r2 r3 r4 r5 r6 r7 r8 r9 a1 a2 a3:Pos}
end
section
variable {K:.l}{Y0 Y9 F H F' H':Hp}{σ σ':L2.St}{τ τ':aE}{A:.af}
end
section
variable {X:Cx}{x:Nat}{e:Expr}{pos:Pos}{hs:.D}
end
section
variable {X:Cx}{r pl nu:Nat}{rn pn nn:Str}{t1 t2 px e1 e2 e3 e4 e5 b1 b2 b3 b4 pos:Pos}{E:Expr}{fE:FE}{φ:T->T}
end
section
variable {X:Cx}{r t x pl nu:Nat}{rn tn xn pn nn:Str}{t1 t2 px e1 e2 e3 e4 e5 b1 b2 b3 b4 pos c1 c2 cpos:Pos}{E:Expr}{φ:T->T}{kx:Nat}
end
section
variable {K:.l}{F H:Hp}
end
section
variable {X:Cx}{r t x pl nu:Nat}{xn:Str}{a1 a2 a3 f1 f2:Pos}
end
section
variable {K:.l}{F H:Hp}{A:.af}
end
section
variable {X:Cx}{e:Expr}{pos:Pos}{x:Nat}
end
section
variable {X:Cx}{x:Nat}{xn:Str}{r1 r2 r3 r4 r5 r6 r7 r8 r9 a1 a2 a3:Pos}
end
section
variable {X:Cx}{e:Expr}{pos:Pos}{b:Bool}
end
section
variable {K:.l}{Y0 Y9 F H F' H':Hp}{σ σ':L2.St}{τ τ':aE}{x:Nat}{p:Addr}{tss:List (List T)}{A:.af}
end
section
variable {X:Cx}{pos p2:Pos}
end
section
variable {X:Cx}{e:Expr}{pos:Pos}{x:Nat}
end
section
variable {K:.l}{Y0 Y9 F H F' H':Hp}{σ σ':L2.St}{τ τ':aE}
end
section
variable {X:Cx}{e v:Expr}{pos pos2:Pos}{x i j:Nat}{nx ni nj:Str}{q1 q2 q3 q4 q5 p1 p2 p3:Pos}{fo:uQ}{fv:FE}{t:T}
end
section
variable {X:Cx}{e:Expr}{pos:Pos}{x:Nat}
end
section
variable {X:Cx}{e:Expr}{pos:Pos}{x:Str}{f:FE}
end
section
variable {prog:.ah}{w:World}{A:Around}{R:.dR}{s:Shared}{elt tg iter tg2 iter2:Expr}{scope:Scope}{pos:Pos}{it acc:Value}{env:Env}
end
section
variable {X:Cx}{K:.l}{D:Addr}{F₂ H₁:Hp}{pins:.v}{σ:L2.St}{H F:Hp}{τ:aE}{us:List T}{s:Shared}
end
section
variable {X':Cx}{tg iter tg2 iter2 elt:Expr}{scope:Scope}{pos:Pos}{fg2:FG}{fi2:FA}{fe:FE}{D:Addr}{F₂ H₁:Hp}
end
section
variable {X:Cx}
end
variable {X:Cx}
def Ku:PyData->Option (List PyData)
 | .list ds=>some ds
 |_=>none
noncomputable def J8 (neg:Bool)(a b:T):Option T:=(zy a).bind fun d=>(zy b).bind fun q=>(Ku q).bind fun ds=>if SeqAt.shaped d=true/\SeqAt.shaped (.list ds)=true then some (.bl (if neg then !(ds.any fun y=>PyData.eqv y d) else ds.any fun y=>PyData.eqv y d)) else none
abbrev OH:=J8 false
abbrev pY:=J8 true
theorem DC {hu:.bf}{ds:List PyData}{d:PyData}(h:SeqAt.shaped (.list ds)=true):PyData.canLayAll0 ds=true/\X.A.units+1+min (PyData.depthAll ds) d.depth<cLine:=by
 obtain⟨h1,h2⟩:=zbV.mp h
 refine⟨h1,?_⟩
 have W:PyData.depthAll ds+1≤64:=of_decide_eq_true h2
 omega
theorem Qk (hu:.bf):lZ X (.ae .In) OH:=by
 intro pins s σ H x y v u Q I L Z ⟨F,a,b,t,sm,m,D,e,q⟩
 obtain⟨E,e1,e⟩:=bind_some e
 obtain⟨J,e2,e⟩:=bind_some e
 obtain⟨ds,e3,e⟩:=bind_some e
 split at e
 ·next hs =>
  cases e
  cases J<;>cases e3
  obtain⟨as,q1⟩:=gx I sm e1 m L
  obtain⟨bs,q2⟩:=gx I sm e2 D Z
  obtain⟨h1,h2⟩:=DC (hu:=hu) hs.2
  exact SeqAt.in_list_reads q2 q1 h1 (SeqAt.canLay_of_shaped hs.1) h2 .cd
 ·cases e
theorem Ip (hu:.bf):lZ X (compareOp .NotIn) pY:=by
 intro pins s σ H x y v u Q I L Z ⟨F,a,b,t,sm,m,D,e,q⟩
 obtain⟨E,e1,e⟩:=bind_some e
 obtain⟨J,e2,e⟩:=bind_some e
 obtain⟨ds,e3,e⟩:=bind_some e
 split at e
 ·next hs =>
  cases e
  cases J<;>cases e3
  obtain⟨as,q1⟩:=gx I sm e1 m L
  obtain⟨bs,q2⟩:=gx I sm e2 D Z
  obtain⟨h1,h2⟩:=DC (hu:=hu) hs.2
  exact SeqAt.notIn_list_reads q2 q1 h1 (SeqAt.canLay_of_shaped hs.1) h2 .cd
 ·cases e
variable {X:Cx}{e:Expr}{pos:Pos}
theorem Ja {x:Str}{a:Addr}(M:Gl X x)(hm:X.mg x=some (.c a))(hd:.M=false:=by decide):SE X .cI (fC (.ptr a)):=
 gz (ph (v:=.ref a) M hm rfl hd) fun F=>rfl
section
variable {X:Cx}{pins:.v}{σ:L2.St}{H:Hp}{s:Shared}{h':Heap}{a:Addr}{o:HO}
end
section
variable {X:Cx}{e:Expr}{pos:Pos}{g:FA}
end
section
variable {X:Cx}{pins:.v}{σ:L2.St}{H:Hp}{s:Shared}{a:Addr}{φ ψ:Heap->Prop}
end
section
variable {X:Cx}{e:Expr}{pos:Pos}{g:FA}
end
section
variable {prog:.ah}{w:World}{A:Around}{E:.o}{s:Shared}{K:.l}{x C f:Addr}{ox:Obj}{od:Option Obj}{name:Str}{bm:.S}
end
section
variable {X:Cx}{o:Expr}{m:Str}{pos apos:Pos}{fo:FE}{k:Nat}
end
section
variable {X:Cx}
end
section
variable {X:Cx}{e:Expr}{pos:Pos}{f:FE}
end
noncomputable def RZ (x:Str):It:=⟨fun i _=>i<x.cps.size,fun i H v H'=>H'=H/\∃c,x.cps[i]? = some c/\v=.str ⟨#[c]⟩,fun i _=>i=x.cps.size⟩
theorem Jt {P:.ah}{w:World}{K:.l}{tg:Expr}(it:Addr)(x:Str)(t:Tok)(kd:String)(hk:["enumerate","zip","dict_itemiterator","dict_reverseitemiterator","odict_iterator","itertools.zip_longest","itertools.pairwise"].contains kd=false)
  (W:∀A:Around,A.handled=none->PySem.Walks P w A it [it] [it] x.cps.size (SignAt x) (fun i h=>h.IsStrIter it kd x t i))
  (S:∀(A:Around) (i:Nat) (s:Shared) (Q:.o) (E:.o),s.heap.IsStrIter it kd x t i->Q .g1 s->wpAny .gz A (pyIter .g1) Q E s):Turn P w K tg (RZ x) [it] it (fun i h=>h.IsStrIter it kd x t i) where
 mem:=.h
 obj:=fun i h st b hb=>by
  have e:b=it:=by simpa using hb
  subst e
  obtain⟨o,e,c,d⟩:=st
  exact⟨o,e,fun v z=>by rw [d] at z;cases z⟩
 keep:=fun i h h' st k=>by obtain⟨o,e,r⟩:=st;exact⟨o,k it .h o e,r⟩
 item:=by
  intro X j L Y U i pins s σ H E I hf st M
  obtain⟨f0,f1,f2,T,f4,F⟩:=hf it .h
  refine (W X.A .cX).item i s _ _ M st fun v h' tk N l kk=>?_
  obtain⟨c,u,B,rfl⟩:=N
  have O:Inv X pins σ H { s with heap:=h',toks:=tk }:=I.turned .e4 f0 f1 T f4 F
  obtain⟨o,e,g,d⟩:=id l
  exact⟨_,rfl,Dx e g d hk ⟨.str ⟨#[c]⟩,H,O,.al,⟨rfl,c,B,rfl⟩,l,fun b hb=>(hf b hb).1⟩⟩
 done:=by
  intro X j L Y U i pins s σ H E I hf st M
  obtain⟨f0,f1,f2,T,f4,F⟩:=hf it .h
  obtain rfl:i=x.cps.size:=M
  exact (W X.A .cX).done s _ _ st fun h' tk kk=>⟨rfl,I.turned .e4 f0 f1 T f4 F⟩
 self:=S
section
variable {X:Cx}{tg l:Expr}{f:FE}
def Sn (tl:TE):TI:=fun σ H R=>tl σ H fun x H1=>∃a,x=.str a/\R (RZ a) H1
theorem NP {tl:TE}(hl:PE X l tl):PI X tg l (Sn tl):=by
 intro pins s σ H R I h
 refine .fz
 obtain⟨a,e,q⟩:=q1
 subst e
 obtain⟨t,rfl⟩:=r1
 have fin:∀kd,["enumerate","zip","dict_itemiterator","dict_reverseitemiterator","odict_iterator","itertools.zip_longest","itertools.pairwise"].contains kd=false->(∀A:Around,A.handled=none->PySem.Walks X.prog X.w A s1.heap.objs.size .gv .gv a.cps.size _ _)->(∀(A:Around) (i:Nat) (s:Shared) (Q:.o) (E:.o),s.heap.IsStrIter s1.heap.objs.size kd a t i->Q _ s->wpAny _ A _ Q E s) ->
   R3 X pins σ tg R _ { s1 with heap:=s1.heap.push { cls:=.type kd,data:=.fields #[.str a t,.int 0 0] } }:=fun kd hk W S=>by
  refine⟨s1.heap.objs.size,.gv,_,_,H1,rfl,O.kept fun b o e=>Heap.get?_push_of_some _ e,Jt _ a t kd hk W S,.d6,fun b hb=>?_,q⟩
  have e:b=s1.heap.objs.size:=by simpa using hb
  subst e
  exact .ak .b8
 cases ha:a.cps.all _
 ·exact wpAny_pyIter_wide ha (fin _ .f (fun A hA=>Walks.strWide hA _ a t) fun A i s Q E st h=>wpAny_pyIter_striter_wide st h)
 ·exact wpAny_pyIter_ascii ha (fin _ .f (fun A hA=>Walks.strAscii hA _ a t) fun A i s Q E st h=>wpAny_pyIter_striter_ascii st h)
def jT (x:Str):List T:=x.cps.toList.map fun c=>.str ⟨#[c]⟩
theorem signs_get {x:Str}{i:Nat}{t:T}(e:(jT x)[i]? = some t):∃c,x.cps[i]? = some c/\t=.str ⟨#[c]⟩:=by
 unfold jT at e
 rw [za5,Array.getElem?_toList] at e
 cases h:x.cps[i]? with
 |none=>rw [h] at e;cases e
 |some c=>rw [h] at e;cases e;exact⟨c,rfl,rfl⟩
theorem Gf {K:.l}{F:Hp}(x:Str):TM.Walks K F (jT x) (RZ x):=by
 refine⟨fun i t F1 H1 e s1 s2=>?_,fun i t F1 H1 v H2 e s1 s2 y=>?_,fun F1 H1 s1 s2=>by show (jT x).length=_;simp [jT]⟩
 ·obtain⟨c,h,_⟩:=signs_get e
  exact (zbe.mp h).1
 ·obtain⟨rfl,c,h1,rfl⟩:=y
  obtain⟨g,h2,rfl⟩:=signs_get e
  rw [h1] at h2;cases h2
  exact⟨F1,bj.refl s2,rfl⟩
noncomputable def sV (f:FE):FA:=fun τ=>(f τ).bind fun p=>match p.1 with | .str x=>some (jT x,p.2) | _=>none
theorem Je (h:SE X l f):SI X tg l (sV f):=fun Y0 Y9=>PI.weak (NP .c8) fun σ H R G=>by
 obtain⟨F,τ,ts,τ',E,e1,q⟩:=G
 obtain⟨⟨x,τ1⟩,e2,e1⟩:=bind_some e1
 dsimp only at e1
 split at e1
 ·cases e1
  refine⟨F,τ,_,τ',E,e2,fun F' H' v Z s' B=>?_⟩
  cases B
  exact⟨_,rfl,q F' H' _ Z s' (Gf _)⟩
 ·cases e1
end
section
variable {X:Cx}{o e:Expr}{fo fe:FE}{name:Str}{id:String}{apos cpos:Pos}{g:.cS}
noncomputable abbrev LR (X:Cx)(id:String)(g:.cS):Prop:=Ow X id (fun x vs H Q=>∃y,vs=[y]/\NZ X.K g x y H Q)
theorem iw (slot:Slot "str" name id)(k:.fk)(hm:LR X id g)(gs:∀a b t,g a b=some t->∃x,a=.str x)(ho:SE X o fo)(he:SE X e fe)
  (j:attributeBase o name X.env (.Z o)=eval o X.env:=by rfl)
  (d:((backTo cpos (starEach [e] X.env)).all (fun x=>!x.1)&&(backToKw cpos (keywordEach [] X.env)).all (fun x=>x.1.isSome)
   && decide .cm)=true:=by rfl)
  (c:.d8=true:=by rfl) (hs:starEach [e] X.env=(.m e)::starEach [] X.env:=by rfl) (i:(backTo cpos .gx).any (·.1)=false:=by rfl):
  SE X (.Call (.ab name) [e] [] cpos) (au g fo fe):=fun Y0 Y9 =>
 PE.weak (DU PySem.F.plainAttrs_str slot k hm (ho Y0 Y9) (jw .eR qg hs) j d c hs i) fun σ H Q G=>by
  obtain⟨F,τ,t,τ',E,e1,q⟩:=G
  obtain⟨⟨a,τ1⟩,e2,e1⟩:=bind_some e1
  obtain⟨⟨b,τ2⟩,e3,e1⟩:=bind_some e1
  obtain⟨u,e4,e1⟩:=bind_some e1
  cases e1
  obtain⟨x,rfl⟩:=gs _ _ _ e4
  refine⟨F,τ,_,τ1,E,e2,fun F1 H1 m V s1 r1=>?_⟩
  cases r1
  exact⟨rfl,F1,τ1,b,_,V,e3,fun F2 H2 l R s2 r2=>⟨l,rfl,F2,.str x,b,t,R.g.fh,rfl,r2,e4,fun F' H' v A f=>q F' H' v (R.grow A) ((s1.trans s2).trans A.sF) f⟩⟩
noncomputable def sY:T->T->Option T
 | .str a,.str b=>if a.length≤sizeLine then some (.str (Txt.removeprefix a b)) else none
 |_,_=>none
theorem HS:LR X "str.removeprefix" sY:=by
 intro pins s σ H x vs v us Q I L f ⟨y,c,F,a,b,t,sm,m,D,e,q⟩
 subst c
 obtain⟨M,rfl,r1⟩:=Vals.one f
 unfold sY at e
 split at e
 ·split at e
  ·next hl =>
   cases e;cases m;cases D
   obtain⟨t1,rfl⟩:=L
   obtain⟨t2,rfl⟩:=r1
   exact SC.removeprefix (fun t' k=>⟨.str _,H,I.tok _,.al,q F H _ .ai rfl⟩) hl
  ·cases e
 ·cases e
noncomputable def M0:T->T->Option T
 | .str a,.int i=>if PadOk i=true then some (.str (Txt.zfill a i)) else none
 |_,_=>none
theorem P9:LR X "str.zfill" M0:=by
 intro pins s σ H x vs v us Q I L f ⟨y,c,F,a,b,t,sm,m,D,e,q⟩
 subst c
 obtain⟨M,rfl,r1⟩:=Vals.one f
 unfold M0 at e
 split at e
 ·split at e
  ·next hl =>
   cases e;cases m;cases D
   obtain⟨t1,rfl⟩:=L
   obtain⟨t2,rfl⟩:=r1
   exact SC.zfill hl (fun t' k=>⟨.str _,H,I.tok _,.al,q F H _ .ai rfl⟩)
  ·cases e
 ·cases e
noncomputable def qG:T->T->Option T
 | .str a,.str b=>if (b.length == 0)=false/\a.length≤sizeLine then some (.tup [.str (Txt.partition a b).1,.str (Txt.partition a b).2.1,.str (Txt.partition a b).2.2]) else none
 |_,_=>none
theorem sx {prog:.ah}{w:World}{A:Around}{E:.o}{s:Shared}{x y:Str}{t u:Tok}{Q:.o}(R:(y.length == 0)=false)(hsz:x.length≤sizeLine)
  (h:∀ta tb tc k,Q .a6 { s with heap:=s.heap.push { cls:=.type "tuple", data:=.seq [.str (Txt.partition x y).1 ta,.str (Txt.partition x y).2.1 tb,.str (Txt.partition x y).2.2 tc].toArray },toks:=k }):
  wpAny .Q A (call (.builtin "str.partition") [.str x t,.str y u]) Q E s:=by
 refine call_meets F.slot_str_partition (typeIs_str _ _ _) F.entry_str_partition (F.args_str_partition_2 _ _) (meets_str_partition x y t u R hsz) ?_
 have h':=h
 unfold Txt.partition at h'
 revert h'
 cases Builtin.Str.occurrences x y 0 x.length 1 with
 |nil=>intro h';exact h' _ _ _ _
 |cons i r=>intro h';exact h' _ _ _ _
theorem KA:LR X "str.partition" qG:=by
 intro pins s σ H x vs v us Q I L f ⟨y,c,F,a,b,t,sm,m,D,e,q⟩
 subst c
 obtain⟨M,rfl,r1⟩:=Vals.one f
 unfold qG at e
 split at e
 ·next _ _ d O =>
  split at e
  ·next hl =>
   cases e;cases m;cases D
   obtain⟨t1,rfl⟩:=L
   obtain⟨t2,rfl⟩:=r1
   refine sx hl.1 hl.2 fun ta tb tc k=>?_
   have hf:=I.fresh
   refine⟨.ref s.heap.objs.size,_,I.laid (fun b u e=> .cK) .b8 ?_,rfl,q _ _ _ (bj.new (.tup [.str (Txt.partition d O).1,.str (Txt.partition d O).2.1,.str (Txt.partition d O).2.2]) sm hf) ⟨_,_,rfl,nv.of aM,⟨_,_,rfl,rfl,_,_,rfl,rfl,_,_,rfl,rfl,rfl⟩⟩⟩
   exact⟨TH,_,.cons .al (.cons .al (.ar .al)),⟨_,.ac,rfl,_,rfl⟩⟩
  ·cases e
 ·cases e
noncomputable def strsOf:List T->Option (List Str)
 |[]=>some []
 | .str x::ts=>(strsOf ts).bind fun r=>some (x::r)
 |_::_=>none
theorem pD {K:.l}{F:Hp}:∀{ts:List T} {ys:.V} {vs:List V} {us:.S},strsOf ts=some ys->aU K F ts vs->Vals vs us->StrsAre us ys
 |[],_,_,_,e,r,f=>by cases e;cases r;cases f;exact .nil
 | .str x::ts,_,_,_,e,r,f=>by
  obtain⟨ys,e1,e⟩:=bind_some e
  cases e
  obtain⟨v,w,rfl,h1,h2⟩:=r
  cases h1
  cases f with
  |cons r1 r2 =>
   obtain⟨t,rfl⟩:=r1
   exact .cons _ _ (pD e1 h2 r2)
 | .non::_,_,_,_,e,_,_=>by cases e
 | .bl _::_,_,_,_,e,_,_=>by cases e
 | .int _::_,_,_,_,e,_,_=>by cases e
 | .ty _::_,_,_,_,e,_,_=>by cases e
 | .tup _::_,_,_,_,e,_,_=>by cases e
 | .lst _::_,_,_,_,e,_,_=>by cases e
 | .scr _::_,_,_,_,e,_,_=>by cases e
 | .dct _ _::_,_,_,_,e,_,_=>by cases e
 | .obj _ _ _::_,_,_,_,e,_,_=>by cases e
 | .ptr _::_,_,_,_,e,_,_=>by cases e
 | .exc _ _ _::_,_,_,_,e,_,_=>by cases e
noncomputable def zW:T->T->Option T
 | .str a,.lst ts=>(strsOf ts).bind fun ys=>if (ys.map (·.length)).sum+ys.length*a.length≤16777216 then some (.str (Txt.join a ys)) else none
 |_,_=>none
theorem Kz:LR X "str.join" zW:=by
 intro pins s σ H x vs v us Q I L f ⟨y,c,F,a,b,t,sm,m,D,e,q⟩
 subst c
 obtain⟨M,rfl,r1⟩:=Vals.one f
 unfold zW at e
 split at e
 ·obtain⟨ys,e1,e⟩:=bind_some e
  split at e
  ·next hl =>
   cases e;cases m
   obtain⟨p,xs,rfl,h1,h2⟩:=D
   obtain⟨t1,rfl⟩:=L
   cases r1
   obtain⟨G,d,p2,hz⟩:=I.list .fa
   exact join_list p2.isList (by simpa using pD e1 h2 d) hl fun t' k=>⟨.str _,H,I.tok _,.al,q F H _ .ai rfl⟩
  ·cases e
 ·cases e
end
section
variable {X:Cx}{e:Expr}{pos:Pos}
noncomputable def gn:List T->Option T
 |[.str x]=>if x.length≤640 then (PySem.intText? x).map .int else none
 |ts=>JT ts
theorem rF:gY X (.type "int") gn:=by
 intro pins s σ H xs us Q I L ⟨F,ts,t,sm,r,e,q⟩
 by_cases hs:∃x,ts=[.str x]
 ·obtain⟨x,rfl⟩:=hs
  simp only [gn] at e
  split at e
  ·next hl =>
   cases hn:PySem.intText? x with
   |none=>rw [hn] at e;cases e
   |some n =>
    rw [hn] at e;cases e
    obtain⟨v,w,rfl,h1,rfl⟩:=r
    cases h1
    obtain⟨M,rfl,⟨t1,rfl⟩⟩:=Vals.one L
    exact PySem.W.KIN.call_text hn hl ⟨.int n,H,.g6,.al,.eY⟩
  ·cases e
 ·have j:JT ts=some t:=by
   unfold gn at e
   split at e
   ·next x=>exact absurd ⟨x,rfl⟩ hs
   ·exact e
  exact MH pins s σ H xs us Q I L ⟨F,ts,t,sm,r,j,q⟩
noncomputable def Hk (neg:Bool):T->T->Option T
 | .str x,.str y=>some (.bl (if neg then (Builtin.Str.occurrences y x 0 y.length 1).isEmpty else !(Builtin.Str.occurrences y x 0 y.length 1).isEmpty))
 |_,_=>none
abbrev qR:=Hk false
abbrev Kb:=Hk true
theorem Im:lZ X (.ae .In) qR:=by
 intro pins s σ H x y v u Q I L Z ⟨F,a,b,t,sm,m,D,e,q⟩
 unfold qR Hk at e
 split at e
 ·cases e;cases m;cases D
  obtain⟨t1,rfl⟩:=L
  obtain⟨t2,rfl⟩:=Z
  exact P.in_str .cd
 ·cases e
noncomputable def O3:List T->Option T
 |[.int i,.int j]=>if vQ i j then some (.Y (i.fdiv j) (i.fmod j)) else none
 |_=>none
theorem O2:gY X (.builtin "divmod") O3:=by
 intro pins s σ H xs us Q I L ⟨F,ts,t,sm,r,e,q⟩
 unfold O3 at e
 split at e
 ·next i j =>
  split at e
  ·next U =>
   cases e
   obtain⟨v,w,rfl,h1,v2,r2,rfl,h2,rfl⟩:=r
   cases h1;cases h2
   obtain⟨M,g,rfl,⟨t1,rfl⟩,⟨t2,rfl⟩⟩:=Vals.two L
   refine divmod_int U.1 ?_ (.inl (PyProof.noPylong_of_log2 (zaS (Gq U.2) (by decide:4000<9000))))
   have hf:=I.fresh
   refine⟨.ref s.heap.objs.size,_,I.laid (fun b o e=> .cK) .b8 ?_,rfl,q _ _ _ (bj.new (.Y (i.fdiv j) (i.fmod j)) sm hf) ⟨_,_,rfl,nv.of aM,⟨_,_,rfl,rfl,_,_,rfl,rfl,rfl⟩⟩⟩
   exact⟨TF,_,.cons .al (.ar .al),⟨_,.ac,rfl,_,rfl⟩⟩
  ·cases e
 ·cases e
noncomputable def Th (K:.l)(te:TE)(tc:TO):TE:=fun σ H Q=>te σ H fun x H1=>tc σ H1 fun l H2=>l=some (-1)/\∃a xs,x=.ref a/\gE K H2 a xs/\∀p,H2 p=none->Q (.c p) (upd H2 p (.lst xs.reverse))
theorem NJ {c:Expr}{te:TE}{tc:TO}{p2:Pos}(he:PE X e te)(U:PO X (some c) tc):PE X (.ab e (.Slice none none (some c) p2)) (Th X.K te tc):=by
 intro pins s σ H Q I h
 refine Subscript_ (df .cs fun v s1 .ay=>?_)
 refine wpAny_Slice ?_
 refine .ao (.aU (df (U pins s1 σ H1 _ O q1) fun vs w ⟨l,P,A,pl,q3⟩=>?_))
 obtain⟨rfl,a,xs,rfl,hx,q⟩:=q3
 have t:Inv X pins σ P { w with heap:=w.heap.push { cls:=.type "slice", data:=.fields #[.none,.none,vs] } }:=A.kept fun b ob q=>Heap.get?_push_of_some _ q
 cases r1
 obtain⟨G,r,Y,hz⟩:=t.list hx
 have hlen:=r.length
 refine tail_any Y.isList.typeIs slot_list_getitem.lookup ?_ (by with_unfolding_all rfl)
 refine wpAny_getItem_list_slice Y.isList (Heap.IsSliceOf.new ..) .none .none pl .h ?_ .gB
 rw [PySem.W.krv_pick]
 refine⟨.ref _,_,t.laid (fun b ob q=> .bD) .b8 ?_,rfl,q _ (t.hok.fresh .b8)⟩
 exact⟨by rw [zbZ];exact hz,G.reverse,0,Vals.reverse r,Heap.get?_push_size _ rfl⟩
noncomputable def kF (i:Nat)(fc:FO):FE:=fun τ=>match τ[i]? with
 |some (some _)=>(fc τ).bind fun q=>if q.1=some (-1) then match q.2[i]? with
  |some (.s us)=>some (.lst us.reverse,q.2)
  |_=>none else none
 |_=>none
theorem FR (i:Nat){x:Str}{p1 p2:Pos}{c:Expr}{fc:FO}(N:PE X .de (vN i))(U:SO X (some c) fc):SE X (.ab .de (.Slice none none (some c) p2)) (kF i fc):=
 fun Y0 Y9=>PE.weak (NJ N (U Y0 Y9)) fun σ H Q G=>by
  obtain⟨F,τ,t,τ',E,e1,q⟩:=G
  unfold kF at e1
  split at e1
  ·next s e3 =>
   obtain⟨⟨l,τ2⟩,e4,e1⟩:=bind_some e1
   obtain⟨v0,g1,_⟩:=E.sl i _ e3
   split at e1
   ·next hl =>
    refine⟨v0,g1,F,τ,l,τ2,E,e4,fun F2 H2 R s2=>⟨hl,?_⟩⟩
    split at e1
    ·next us n =>
     cases e1
     obtain⟨v',k1,p,vs,rfl,k2,k3,L,k5⟩:=R.sl i _ n
     rw [g1] at k1;cases k1
     refine⟨p,vs,rfl,gE.of k2,fun a ha=>?_⟩
     have A:=bj.new (.lst vs.reverse) R.g.fh ha
     exact q _ _ _ (R.grow A) (s2.trans A.sF) ⟨a,_,rfl,aM,aU.mono A.sF k5.rev⟩
    ·cases e1
   ·cases e1
  ·cases e1
theorem wM {K:.l}{F:Hp}:∀{As:.af} {vs:List V},aU K F (As.map .ptr) vs->vs=As.map .ref
 |[],_,h=>by cases h;rfl
 |A::As,_,h=>by
  obtain⟨v,w,rfl,h1,h2⟩:=h
  rw [wM h2]
  cases (h1)
  rfl
end
theorem Hu:∀a b t,sY a b=some t->∃x,a=.str x:=fun a b t h=>by
 unfold sY at h
 split at h
 ·exact⟨_,rfl⟩
 ·cases h
theorem PK:∀a b t,M0 a b=some t->∃x,a=.str x:=fun a b t h=>by
 unfold M0 at h
 split at h
 ·exact⟨_,rfl⟩
 ·cases h
theorem Kf:∀a b t,qG a b=some t->∃x,a=.str x:=fun a b t h=>by
 unfold qG at h
 split at h
 ·exact⟨_,rfl⟩
 ·cases h
theorem Ke:∀a b t,zW a b=some t->∃x,a=.str x:=fun a b t h=>by
 unfold zW at h
 split at h
 ·exact⟨_,rfl⟩
 ·cases h
section
variable {env:Env}{es:.av}
end
section
variable {X:Cx}{e:Expr}{es:.av}{pos:Pos}{x:Nat}{g:FA}
end
section
variable {P:.ah}{w:World}{K:.l}{mg:.H}{base:Heap}
end
section
variable {K:.l}{Y0 Y9 F H F' H':Hp}{σ σ':L2.St}{τ τ':aE}{x t w:Nat}{p q:Addr}{tss:List (List T)}{A:.af}
end
section
variable {X:Cx}{e:Expr}{pos:Pos}{x t:Nat}
end
section
variable {prog:.ah}{w:World}{A:Around}{E:.o}{s:Shared}
variable {z TI TO i1 i2 l2:Addr}{k c:Nat}{u:Str}{t1:Tok}{ys:.cv}{x y a b:Value}
end
section
variable {prog:.ah}{w:World}{A:Around}{E:.o}{s:Shared}
end
section
variable {X:Cx}{e:Expr}{pos:Pos}{x:Nat}
end
section
variable {X:Cx}{e:Expr}{pos:Pos}
end
section
variable {K:.l}{Y0 Y9 F H F' H':Hp}{σ:L2.St}{τ τ':aE}{A:.af}
end
section
variable {X:Cx}{e:Expr}{es:.av}{pos:Pos}{g:FA}
end
section
variable {X:Cx}{e:Expr}{pos:Pos}
noncomputable def Lk:V->List V->Hp->VK->Prop:=fun x vs H Q=>∃l xs i y,x=.ref l/\vs=[.int i,y]/\H l=some .eJ/\0≤i/\i.toNat≤xs.length/\xs.length<1000/\Q .non (.aj l (.al (xs.take i.toNat++y::xs.drop i.toNat)))
theorem Fx:Tt X "list.insert" Lk:=by
 intro pins s σ H x vs v us Q I L f h
 obtain⟨l,xs,i,y,rfl,rfl,A,h0,h1,h2,q⟩:=h
 cases L
 obtain⟨M,g,rfl,m,D⟩:=Vals.two f
 obtain⟨t,rfl⟩:=m
 obtain⟨z,G,n,r,hl,e⟩:=I.lstM A
 have hk:i.toNat≤G.length:=by rw [<- hl];exact h1
 have hf:¬ (!Builtin.List.listFitsIndex i)=true:=by
  unfold Builtin.List.listFitsIndex
  simp
  omega
 refine call_meets F.slot_list_insert ⟨_,e,rfl⟩ F.entry_list_insert (F.args_list_insert_3 _ _ _) (AutoSeq1.list_insert_list_int_val_1 l G.toArray n i t g hf (by rw [zaE];omega)) ⟨e,?_⟩
 refine⟨.non,_,I.lset A e ?_ ((r.take _).append (.cons D (r.drop _))) ?_,rfl,q⟩
 ·rw [if_neg .e,zaE,zbp hk]
  simp
  exact List.take_of_length_le (by rw [za2];exact zap _)
 ·rw [zak,zaV,zaj,za2]
  have:=bN (n:=xs.length+1) .e
  omega
noncomputable def EZ (i:Nat)(f g:FE):FS:=fun τ=>match τ[i]? with
 |some (some (.own _))=>(f τ).bind fun p=>(g p.2).bind fun q=>match q.2[i]?,p.1 with
  |some (.s us),.int k=>if 0≤k/\k.toNat≤us.length/\us.length<1000 then some (.nx (q.2.set i (.s (us.take k.toNat++q.1::us.drop k.toNat)))) else none
  |_,_=>none
 |_=>none
theorem FW (i:Nat){x:Str}{e2:Expr}{p1 p2 p3:Pos}{f g:FE}(N:PE X .de (vN i))(he:.gF)(b:SE X e2 g)
  (j:attributeBase .de "insert" X.env (.Z .de)=eval .de X.env:=by rfl)
  (d:(.s (starEach [e,e2] X.env) ([e,e2].length+([]:List Keyword).length+(if ([]:List Keyword).isEmpty then 0 else 1)<30))=true:=by rfl)
  (c:.gV=true:=by rfl) (hs:starEach [e,e2] X.env=(.m e)::starEach [e2] X.env:=by rfl) (n:starEach [e2] X.env=(.m e2)::starEach [] X.env:=by rfl) (l:(backTo p3 (starEach [e2] X.env)).any (·.1)=false:=by rfl)
  (W:swapsWith (.Call (.Attribute .de "insert" p2) [e,e2] [] p3) none pos.line X.env=pure false:=by rfl):
  SS X (.Expr (.Call (.Attribute .de "insert" p2) [e,e2] [] p3) pos) (EZ i f g):=fun Y0 Y9 =>
 PS.weak (yN (DU zbI PySem.F.slot_list_insert PySem.F.type_list_insert Fx N (jw .eR (jw (b Y0 Y9) qg n) hs) j d c hs l) W) fun D σ H G=>by
  obtain⟨F,τ,r,E,e1,q⟩:=G
  unfold EZ at e1
  split at e1
  ·next h e3 =>
   obtain⟨⟨y,τ1⟩,e2,e1⟩:=bind_some e1
   obtain⟨⟨K,τ2⟩,e4,e1⟩:=bind_some e1
   dsimp only at e1
   split at e1
   ·next us k e5 _ =>
    split at e1
    ·next hk =>
     cases e1
     obtain⟨v,g1,p,vs,rfl,g2,g3,C,Y⟩:=E.sl i _ e3
     refine⟨_,g1,.inl ⟨rfl,vs,gE.of g2⟩,F,τ,_,τ1,E,e2,fun F1 H1 S V s1 r1=>⟨F1,τ1,K,τ2,V,e4,fun F2 H2 a R s2 r2=>?_⟩⟩
     cases r1
     obtain⟨v',k1,P,u,rfl,k2,k3,L,k5⟩:=R.sl i _ e5
     rw [g1] at k1;cases k1
     refine⟨p,u,k,a,rfl,rfl,k2,hk.1,by rw [k5.length];exact hk.2.1,by rw [k5.length];exact hk.2.2,q F2 _ σ (R.turnOwn e5 g1 ((k5.take _).append ⟨_,_,rfl,r2,k5.drop _⟩)) .a8⟩
    ·cases e1
   ·cases e1
  ·cases e1
end
section
variable {X:Cx}{e:Expr}{pos:Pos}
variable {k n i:Nat}{x:Str}{p:Pos}{es:.av}{g:FA}{tbl:List .aW}
end
section
variable {K:.l}{Y0 Y9 F H:Hp}{σ:L2.St}{τ:aE}{A:.af}{x:Nat}{t:T}{v:V}
end
section
variable {X:Cx}{e:Expr}{pos:Pos}
end
section
variable {X:Cx}{e:Expr}{pos:Pos}
end
end TM
namespace L2
open PySem PySem.Spec PyProof.Rows
section
variable {κ:Type}[DecidableEq κ]
def qw (kvs:.ez)(k:κ):Option V:=(kvs.find? fun G=>decide (G.1=k)).map (·.2)
noncomputable def putK (kvs:.ez)(k:κ)(v:V):List (κ×V):=
 if .eQ=true then kvs.map (fun G=>if G.1=k then (G.1,v) else G) else kvs++[(k,v)]
theorem mX {p:κ×V}{r:.ez}{k:κ}(e:p.1=k):qw (p::r) k=some p.2:=by simp [qw,e]
theorem mW {p:κ×V}{r:.ez}{k:κ}(e:¬ p.1=k):qw (p::r) k=qw r k:=by simp [qw,e]
theorem Bm (k:κ):∀kvs:List (κ×V),.eQ=(qw kvs k).isSome
 |[]=>rfl
 |p::r=>by
  rw [List.any_cons]
  by_cases e:p.1=k
  ·simp only [mX e,decide_eq_true e,Bool.true_or,Option.isSome_some]
  ·rw [mW e,decide_eq_false e];exact Bm k r
theorem mz (kvs:.ez)(k:κ)(v:V):(putK kvs k v).length≤kvs.length+1:=by
 unfold putK
 split
 ·rw [zaf];omega
 ·rw [zak,zaj,zbw];omega
theorem nk.isSome_eq {o:Option V}{u:.dC}(r:nk o u):o.isSome=u.isSome:=by
 cases o with
 |none=>cases u with
  |none=>rfl
  |some _=>exact (r).elim
 |some _=>cases u with
  |none=>exact (r).elim
  |some _=>rfl
theorem KV.val {kvs:.ez}{vs:.gH}(r:KV kvs vs)(k:κ):nk (qw kvs k) (valueAt vs k):=by
 induction r with
 |nil=>exact True.intro
 |@cons p q ps qs h t A =>
  obtain⟨h1,h2⟩:=h
  by_cases e:p.1=k
  ·have j:=h1.symm.trans e
   have b:valueAt (q::qs) k=some q.2:=by simp [valueAt,j]
   rw [mX e,b];exact h2
  ·have j:¬ q.1=k:=fun z=>e (h1.trans z)
   have b:valueAt (q::qs) k=valueAt qs k:=by simp [valueAt,j]
   rw [mW e,b];exact A
theorem KV.any {kvs:.ez}{vs:.gH}(r:KV kvs vs)(k:κ):.eQ=vs.any fun G=>decide (G.1=k):=by
 induction r with
 |nil=>rfl
 |cons h t A=>rw [List.any_cons,List.any_cons,A,h.1]
theorem KV.repl {kvs:.ez}{vs:.gH}(r:KV kvs vs)(k:κ){y:V}{u:Value}(Z:RelV y u):
  KV (kvs.map fun G=>if G.1=k then (G.1,y) else G) (vs.map fun G=>if G.1=k then (G.1,u) else G):=by
 induction r with
 |nil=>exact .nil
 |@cons p q ps qs h t A =>
  rw [zag,zag]
  refine .cons ?_ A
  obtain⟨h1,h2⟩:=h
  by_cases e:p.1=k
  ·rw [if_pos e,.ap (h1.symm.trans e)];exact⟨h1,Z⟩
  ·rw [if_neg e,if_neg (fun z=>e (h1.trans z))];exact⟨h1,h2⟩
theorem KV.put {kvs:.ez}{vs:.gH}(r:KV kvs vs)(k:κ){y:V}{u:Value}(Z:RelV y u):KV (putK kvs k y) (stored vs k u):=by
 unfold putK stored
 rw [r.any k]
 by_cases e:(vs.any fun G=>decide (G.1=k))=true
 ·rw [if_pos e,if_pos e];exact r.repl k Z
 ·rw [if_neg e,if_neg e];exact Paired.snoc r ⟨rfl,Z⟩
theorem KV.length {kvs:.ez}{vs:.gH}(r:KV kvs vs):kvs.length=vs.length:=Paired.length r
end
theorem wB {P:.ah}{w:World}{k:Key}{u:Value}(r:RelV (kV k) u):(dP P w).is k u=true:=by
 cases k with
 |inl i=>obtain⟨t,e⟩:=(r);subst e;exact AB P w i t
 |inr x=>obtain⟨t,e⟩:=(r);subst e;exact AD P w x t
theorem wz {P:.ah}{w:World}:∀{ks:List Key} {us:.S},Vals (ks.map kV) us->ItemsAre (dP P w) ks us
 |[],_,r=>by rw [List.map_nil] at r;cases r;exact .nil
 |k::ks,_,r=>by
  cases r with
  |cons h t=>exact .cons (wB h) (wz t)
noncomputable abbrev KT (H:Hp):List (List Key×V)->List .dS->Prop:=Paired fun p q=>p.1=q.1/\H q.2.1=some (.tup (p.1.map kV))/\RelV p.2 q.2.2
theorem KT.val {H:Hp}{kvs:.dJ}{xs:List .dS}(r:KT H kvs xs)(k:List Key):nk (qw kvs k) ((atKey xs k).map (·.2)):=by
 induction r with
 |nil=>exact True.intro
 |@cons p q ps qs h t A =>
  obtain⟨h1,_,h2⟩:=h
  by_cases e:p.1=k
  ·have j:=h1.symm.trans e
   have b:atKey (q::qs) k=some q.2:=by simp [atKey,j]
   rw [mX e,b];exact h2
  ·have j:¬ q.1=k:=fun z=>e (h1.trans z)
   have b:atKey (q::qs) k=atKey qs k:=by simp [atKey,j]
   rw [mW e,b];exact A
theorem KT.repl {H:Hp}{kvs:.dJ}{xs:List .dS}(r:KT H kvs xs)(k:List Key){y:V}{u:Value}(Z:RelV y u):
  KT H (kvs.map fun G=>if G.1=k then (G.1,y) else G) (xs.map (putAt k u)):=by
 induction r with
 |nil=>exact .nil
 |@cons p q ps qs h t A =>
  rw [zag,zag]
  refine .cons ?_ A
  obtain⟨h1,h2,W⟩:=h
  unfold putAt
  by_cases e:p.1=k
  ·rw [if_pos e,.ap (h1.symm.trans e)];exact⟨h1,h2,Z⟩
  ·rw [if_neg e,if_neg (fun z=>e (h1.trans z))];exact⟨h1,h2,W⟩
theorem KT.put {H:Hp}{kvs:.dJ}{xs:List .dS}(r:KT H kvs xs)(k:List Key){b:Addr}{y:V}{u:Value}(hb:H b=some (.tup (k.map kV)))(Z:RelV y u):
  KT H (putK kvs k y) (storedH xs k b u):=by
 have e:.eQ=(atKey xs k).isSome:=by
  rw [Bm,(r.val k).isSome_eq,zcb]
 unfold putK storedH
 rw [e]
 by_cases q:(atKey xs k).isSome=true
 ·rw [if_pos q,if_pos q];exact r.repl k Z
 ·rw [if_neg q,if_neg q];exact Paired.snoc r ⟨rfl,hb,Z⟩
theorem KT.keeps {H H':Hp}{kvs:.dJ}{xs:List .dS}(r:KT H kvs xs)(Y:∀b ys,H b=some (.tup ys)->H' b=some (.tup ys)):KT H' kvs xs:=
 Paired.mapP r fun _ _ z=>⟨z.1,Y _ _ z.2.1,z.2.2⟩
section
variable {P:.ah}{w:World}{H:Hp}{h:Heap}{a:Addr}
theorem Mp {u:HO}(ok:.e0)(e:Rd H a u):dE P w H h a u:=e.ok ok
theorem sP {kvs:.bW}(ok:.e0)(e:Rd H a .ba):kvs.length≤sizeLine/\(a == sysModules)=false/\∃vs,KV kvs vs/\h.DictOf (dP P w) a vs:=
 Mp ok e
theorem GV {kvs:.bW}(ok:.e0)(e:H a=some .ba):kvs.length≤sizeLine/\(a == sysModules)=false/\∃vs,KV kvs vs/\h.DictOf (dP P w) a vs:=sP ok (.inl e)
theorem tm {ks:List Key}(ok:.e0)(e:H a=some (.tup (ks.map kV))):(tupleKind (dP P w)).is h ks a:=by
 obtain⟨_,G,r,o,h1,h2,n,W⟩:=(ok a _ e)
 exact⟨o,G.toArray,n,h1,h2,W,by simpa using wz r⟩
theorem we {kvs:.dJ}(ok:.e0)(e:Rd H a (.dT kvs)):kvs.length≤sizeLine/\(a == sysModules)=false /\
  ∃xs,KT H kvs xs/\h.DictOfH (tupleKind (dP P w)) a xs:=by
 obtain⟨z,y,xs,r,o,es,ep,h1,h2,W,N,D⟩:=(Mp ok e)
 refine⟨z,y,xs,r,o,es,ep,h1,h2,W,N,fun x hx=>?_,D⟩
 have all:∀{l:List _} {m:List _},KT H l m->∀x∈m,(tupleKind (dP P w)).is h x.1 x.2.1:=by
  intro l m q
  induction q with
  |nil=>intro x hx;exact nomatch hx
  |@cons p q ps qs hq t A =>
   intro x hx
   rcases zao.mp hx with e | hx
   ·subst e
    exact tm ok (by rw [<- hq.1];exact hq.2.1)
   ·exact A x hx
 exact all r x hx
theorem Pk {kvs:.dJ}(ok:.e0)(e:H a=some (.dT kvs)):kvs.length≤sizeLine/\(a == sysModules)=false /\
  ∃xs,KT H kvs xs/\h.DictOfH (tupleKind (dP P w)) a xs:=we ok (.inl e)
end
noncomputable def xh (H:Hp)(a:Addr)(y:V)(r:Option V):Prop:=
 (∃kvs k,Rd H a .ba/\y=kV k/\r=qw kvs k)\/∃kvs k b,Rd H a (.dT kvs)/\y=.ref b/\H b=some (.tup (k.map kV))/\r=qw kvs k
noncomputable def EE (H:Hp)(a:Addr)(y v:V)(H':Hp):Prop:=
 (∃kvs k,H a=some .ba/\y=kV k/\kvs.length<sizeLine/\H'=upd H a (.dK (putK kvs k v))) \/
 ∃kvs k b,H a=some (.dT kvs)/\y=.ref b/\H b=some (.tup (k.map kV))/\kvs.length<sizeLine/\H'=upd H a (.dT (putK kvs k v))
theorem xh.k {H:Hp}{a:Addr}{kvs:.bW}{k:Key}(e:H a=some .ba):xh H a (kV k) (qw kvs k):=.inl ⟨kvs,k,.inl e,rfl,rfl⟩
theorem EE.k {H:Hp}{a:Addr}{kvs:.bW}{k:Key}{v:V}(e:H a=some .ba)(hl:kvs.length<sizeLine):EE H a (kV k) v (.aj a (.dK (putK kvs k v))):=.inl ⟨kvs,k,e,rfl,hl,rfl⟩
section
variable {X:Cx}{pins:.v}{σ:St}{H:Hp}{s:Shared}{a:Addr}{y v:V}{u r:Value}{o:Option V}{A:Around}{E:.o}
theorem Inv.big (I:.u):sysModules<s.heap.objs.size:=by
 have h:=(I.mod.glob.keeps I.bk).lt
 exact zaS .f h
theorem EU {Q:.o}(hu:A.units+1<cLine)(I:.u)(g:xh H a y .di)(Z:RelV y u)(h:∀D s',Inv X pins σ H s'->RelV v D->Q D s'):
  wpAny .t A (getItem (.c a) u) Q E s:=by
 rcases g with ⟨kvs,k,e,G,l⟩ | ⟨kvs,k,b,e,G,C,l⟩
 ·subst G
  obtain⟨z,hd,vs,rel,dd⟩:=sP I.hok e
  obtain⟨D,hw,d⟩:=nk.some_of (by rw [l];exact rel.val k)
  exact wpAny_getItem_of (wB Z) dd.mapOf hw (h D _ (I.tok _) d)
 ·subst G
  cases (Z)
  obtain⟨z,hd,xs,rel,dd⟩:=we I.hok e
  obtain⟨D,hw,d⟩:=nk.some_of (by rw [l];exact rel.val k)
  obtain⟨p,hp,F⟩:=Option.map_eq_some_iff.mp hw
  refine wpAny_getItem_heap .gR (tm I.hok C) dd hp ?_
  rw [F]
  exact h D _ (I.tok _) d
theorem Pg {Q:.o}(hu:A.units+1<cLine)(I:.u)(g:xh H a y o)(Z:RelV y u)(h:∀s',Inv X pins σ H s'->Q (.bool o.isSome) s'):
  wpAny .t A (compareOp .In u (.c a)) Q E s:=by
 rcases g with ⟨kvs,k,e,G,l⟩ | ⟨kvs,k,b,e,G,C,l⟩
 ·subst G
  obtain⟨z,hd,vs,rel,dd⟩:=sP I.hok e
  refine wpAny_in_of (wB Z) hd dd.mapOf ?_
  rw [<- (rel.val k).isSome_eq,<- l]
  exact h _ (I.tok _)
 ·subst G
  cases (Z)
  obtain⟨z,hd,xs,rel,dd⟩:=we I.hok e
  refine wpAny_in_heap .gR (tm I.hok C) hd dd ?_
  have q:=(rel.val k).isSome_eq
  rw [zcb] at q
  rw [<- q,<- l]
  exact h _ (I.tok _)
theorem JZ {Q:.o}(hu:A.units+1<cLine)(I:.u)(g:xh H a y o)(Z:RelV y u)(h:∀s',Inv X pins σ H s'->Q (.bool (!o.isSome)) s'):
  wpAny .t A (compareOp .NotIn u (.c a)) Q E s:=by
 rcases g with ⟨kvs,k,e,G,l⟩ | ⟨kvs,k,b,e,G,C,l⟩
 ·subst G
  obtain⟨z,hd,vs,rel,dd⟩:=sP I.hok e
  refine wpAny_notIn_of (wB Z) hd dd.mapOf ?_
  rw [<- (rel.val k).isSome_eq,<- l]
  exact h _ (I.tok _)
 ·subst G
  cases (Z)
  obtain⟨z,hd,xs,rel,dd⟩:=we I.hok e
  refine wpAny_notIn_heap .gR (tm I.hok C) hd dd ?_
  have q:=(rel.val k).isSome_eq
  rw [zcb] at q
  rw [<- q,<- l]
  exact h _ (I.tok _)
theorem xG {h':Heap}{t':Nat}{ob:HO}(I:.u)(f:OV (H a))(hs:Heap.SameBut a s.heap h')(he:∃q,h'.get? a=some q)(new:dE X.prog X.w (.aj a ob) h' a ob):
  Inv X pins σ (.aj a ob) { s with heap:=h',toks:=t' }:=
 I.write f .bM (fun b q hb z=>(hs.2 b hb).trans z) he new
theorem GU {P:.ah}{w:World}{H':Hp}{h':Heap}{kvs:.bW}{vs:List (Key×Value)}(z:kvs.length≤sizeLine)(hd:(a == sysModules)=false)(b:KV kvs vs)(dd:h'.DictOf (dP P w) a vs):
  dE P w H' h' a .ba:=⟨z,hd,vs,b,dd⟩
theorem EV {H':Hp}{Q:.dI}(hu:A.units+1<cLine)(I:.u)(g:EE H a y v H')(Z:RelV y u)(f:RelV v r)(h:∀s',Inv X pins σ H' s'->Q () s'):
  wpAny .t A (setItem (.c a) u r) Q E s:=by
 rcases g with ⟨kvs,k,e,G,l,d⟩ | ⟨kvs,k,b,e,G,C,l,d⟩
 ·subst G d
  obtain⟨z,hd,vs,rel,dd⟩:=GV I.hok e
  have hz:vs.length≤sizeLine:=by rw [<- rel.length];exact z
  have hl:.hs:=by have:=mz kvs k v;omega
  refine wpAny_setItem_pairs (wB Z) dd fun h' i hs=>h _ ?_
  have he:∃q,h'.get? a=some q:=let ⟨q,_,_,hq,_⟩:=i;⟨q,hq⟩
  exact xG I .fF hs he (GU hl hd (rel.put k f) i)
 ·subst G d
  cases (Z)
  obtain⟨z,hd,xs,rel,dd⟩:=Pk I.hok e
  have hz:xs.length≤sizeLine:=by rw [<- Paired.length rel];exact z
  have hl:.hs:=by have:=mz kvs k v;omega
  refine wpAny_setItem_heap .gR (tm I.hok C) dd fun h' i hs=>h _ ?_
  obtain⟨q,es,ep,hq,h2,W,N,_,D⟩:=i
  refine xG I .fF hs ⟨q,hq⟩ ⟨hl,hd,_,(rel.put k C f).keeps fun c ys t=>?_,q,es,ep,hq,h2,W,N,D⟩
  rw [ay (Qc t e .bo)]
  exact t
end
section
variable {X:Cx}{pins:.v}{σ:St}{H:Hp}{s:Shared}{a:Addr}{kvs:.bW}{k:Key}{u:Value}{A:Around}{E:.o}
theorem Ph {Q:.o}(I:.u)(e:Rd H a .ba)(h:∀t s',Inv X pins σ H s'->Q (.int kvs.length t) s'):wpAny .t A (call .gs [.ref a]) Q E s:=by
 obtain⟨z,hd,vs,rel,dd⟩:=sP I.hok e
 refine call_len_dict hd dd (by rw [<- rel.length];rw [sizeLine_eq] at z;omega) ?_
 rw [<- rel.length]
 exact h _ _ (I.tok _)
end
def Mt (i:Expr):Prop:=∀z b,subscripted i false z b=operate [z,b] (getItem z b)
theorem LC {prog:.ah}{w:World}{A:Around}{E:.o}{s:Shared}{env:Env}{value slice:Expr}{pos:Pos}{T id:String}{Q:.o}
  (hl:typeLookup (.type T) "__getitem__" = pure (some .dU)) (hs:Mt slice)
  (h:wpAny .Q A (eval value env) (fun o g=>wpAny .Q A (eval slice env) (fun i d=>d.TypeIs o T/\wpAny .Q A (getItem o i) Q E d) E g) E s):
  wpAny .Q A (eval (.ab value slice) env) Q E s:=by
 refine Subscript_ (wpAny_mono h (fun o g f=>wpAny_mono f (fun i d k=>?_) fun _ _ x=>x) fun _ _ x=>x)
 obtain⟨N,k⟩:=k
 refine wpAny_bind ?_
 refine .f (wpAny_specialOf N hl ?_)
 have fin:wpAny .Q A (subscripted slice false o i) (fun r c=>wpAny .Q A (letTemporaryGo value o r >>= fun _=>pure r) Q E c) E d:=by
  rw [hs o i]
  exact wpAny_operating (wpAny_mono k (fun r c j=>.f (wpAny_letTemporaryGo (.aU j))) fun _ _ x=>x)
 first
  |exact wpAny_pure (.G fin)
  |exact wpAny_bind _
  |exact wpAny_bind fin
theorem zK {X:Cx}{pins:.v}{σ:St}{H:Hp}{s:Shared}{a:Addr}{y:V}{o:Option V}(I:.u)(g:xh H a y o):s.TypeIs (.c a) "dict" := by
 rcases g with ⟨kvs,k,e,_,_⟩ | ⟨kvs,k,b,e,_,_,_⟩
 ·obtain⟨_,_,vs,_,dd⟩:=sP I.hok e
  exact dd.typeIs
 ·obtain⟨_,_,xs,_,dd⟩:=we I.hok e
  exact dd.typeIs
noncomputable def QO (td ty:TE):TE:=fun σ H Q=>td σ H fun x H1=>ty σ H1 fun y H2=>∃a v,x=.ref a/\xh H2 a y .di/\Q v H2
noncomputable def S9 (ty td:TE):TE:=fun σ H Q=>ty σ H fun y H1=>td σ H1 fun x H2=>∃a o,x=.ref a/\xh H2 a y o/\Q (.bl o.isSome) H2
noncomputable def QD (td ty tv:TE):TS:=fun D σ H=>tv σ H fun v H1=>td σ H1 fun x H2=>ty σ H2 fun y P=>∃a S,x=.ref a/\EE P a y v S/\D.nx σ S
section
variable {X:Cx}{o i e value:Expr}{pos pos' tpos:Pos}{td ty tv:TE}
theorem K6 (hu:X.A.units+1<cLine)(ho:PE X o td)(hi:PE X i ty)(hs:Mt i):PE X (.ab o i) (QO td ty):=by
 intro pins s σ H Q I h
 refine LC PySem.F.slot_dict_getitem.lookup hs (df (ho pins s σ H _ I h) fun u s1 ⟨x,H1,O,L,q1⟩=>df (hi pins s1 σ H1 _ O q1) fun b s2 ⟨y,H2,K,Z,a,v,ex,g,q2⟩=>?_)
 subst ex
 obtain rfl:u=Value.ref a:=L
 exact⟨zK K g,EU hu K g Z fun D w A d=>⟨v,H2,A,d,q2⟩⟩
theorem NA (hu:X.A.units+1<cLine)(hi:PE X i ty)(ho:PE X o td):PC X .In i o (S9 ty td):=by
 intro pins s σ H Q I h
 refine df (hi pins s σ H _ I h) fun b s1 ⟨y,H1,O,Z,q1⟩=>df (ho pins s1 σ H1 _ O q1) fun u s2 ⟨x,H2,K,L,a,z,ex,g,q2⟩=>?_
 subst ex
 obtain rfl:u=Value.ref a:=L
 exact Pg hu K g Z fun w A=>⟨.bl z.isSome,H2,A,rfl,q2⟩
theorem DW (hu:X.A.units+1<cLine)(ho:PE X o td)(hi:PE X i ty)(N:PE X value tv)(hs:swapsWith value (some (.Subscript o i pos')) pos.line X.env=pure false):
  PS X (.Assign [.Subscript o i pos'] value pos) (QD td ty tv):=by
 intro pins s σ H D I h
 refine wpAny_Assign_Subscript (df (N pins s σ H _ I h) fun r s1 ⟨v,H1,O,f,q1⟩=>df (ho pins s1 σ H1 _ O q1) fun u s2 ⟨x,H2,K,L,q2⟩=>df (hi pins s2 σ H2 _ K q2) fun b w ⟨y,P,A,Z,a,S,ex,g,q3⟩=>?_) hs
 subst ex
 obtain rfl:u=Value.ref a:=L
 exact EV hu A g Z f fun C t=>⟨σ,S,t,q3⟩
end
theorem zL {P:.ah}{w:World}{H:Hp}(h:Heap)(hb:sysModules<h.objs.size):dE P w H (h.push { cls:=.type "dict", data:=.dict #[] }) h.objs.size (.dK []):=
 ⟨za4 _,beq_eq_false_iff_ne.mpr (.a2 (zat hb)),[],.nil,Heap.DictOf.new h⟩
def Og:TE:=fun _ H Q=>∀p,H p=none->Q (.c p) (.aj p (.dK []))
section
variable {X:Cx}{pos:Pos}
theorem IC:PE X (.Dict [] [] pos) Og:=fun pins s σ H Q I h =>
 wpAny_Dict_empty ⟨.ref s.heap.objs.size,_,I.laid (fun _ _ q=> .bD) .b8 (zL s.heap I.big),rfl,h _ .f2⟩
end
def T6 (H:Hp)(a:Addr):Prop:=(∃kvs,Rd H a .ba)\/∃kvs,Rd H a (.dT kvs)
theorem M5 {X:Cx}{pins:.v}{σ:St}{H:Hp}{s:Shared}{a:Addr}(I:.u)(d:T6 H a):
  s.TypeIs (.c a) "dict"/\(∀b,Value.ref a=.ref b->∃ob,s.heap.get? b=some ob/\ob.dict=none)/\(a == sysModules)=false:=by
 rcases d with ⟨kvs,e⟩ | ⟨kvs,e⟩
 ·obtain⟨_,hd,vs,_,dd⟩:=sP I.hok e
  refine⟨dd.typeIs,fun b q=>?_,hd⟩
  cases q
  obtain⟨ob,_,_,h1,h2,_⟩:=dd
  exact⟨ob,h1,h2.2.1⟩
 ·obtain⟨_,hd,xs,_,dd⟩:=we I.hok e
  refine⟨dd.typeIs,fun b q=>?_,hd⟩
  cases q
  obtain⟨ob,_,_,h1,h2,_⟩:=dd
  exact⟨ob,h1,h2.2.1⟩
section
variable {X:Cx}{pins:.v}{σ:St}{H:Hp}{s:Shared}{a:Addr}{y d:V}{u r:Value}{o:Option V}{A:Around}{E:.o}
end
section
variable {X:Cx}{o e f:Expr}{apos cpos:Pos}{td ty tx:TE}
end
section
variable {X:Cx}{pins:.v}{σ:St}{H:Hp}{s:Shared}{a:Addr}{kvs:.bW}{A:Around}{E:.o}
end
section
variable {X:Cx}{pins:.v}{σ:St}{H:Hp}{s:Shared}{a:Addr}{y:V}{u:Value}{A:Around}{E:.o}
end
end L2
namespace TM
open PySem PySem.Spec PyProof.Rows L2
noncomputable def GQ:List Str->List T->Str->Option T
 |n::ns,t::ts,x=>if n=x then some t else GQ ns ts x
 |_,_,_=>none
def hJ:List Str->Str->Bool
 |[],_=>false
 |n::ns,x=>if n=x then true else hJ ns x
theorem Jx {K:.l}{F:Hp}{x:Str}{t:T}:∀{ns:.V} {ts:List T} {vs:List V},aU K F ts vs->GQ ns ts x=some t->∃y,qw (cK ns vs) (.inr x)=some y/\Rep K F t y
 |[],_,_,_,e=>by cases e
 |_::_,[],_,_,e=>by cases e
 |n::ns,u::ts,vs,r,e=>by
  obtain⟨v,w,rfl,h1,h2⟩:=r
  unfold GQ at e
  split at e
  ·next h=>cases e;subst h;exact⟨v,mX rfl,h1⟩
  ·next h =>
   obtain⟨y,k1,k2⟩:=Jx h2 e
   exact⟨y,by rw [cK,mW (fun z=>h (by injection z))];exact k1,k2⟩
theorem xV {x:Str}:∀{ns:.V} {vs:List V},vs.length=ns.length->(qw (cK ns vs) (.inr x)).isSome=hJ ns x
 |[],vs,_=>by
  cases vs with
  |nil=>rfl
  |cons v vs=>rfl
 |n::ns,[],h=>by cases h
 |n::ns,v::vs,h=>by
  unfold hJ
  split
  ·next e=>subst e;rw [cK,mX rfl];rfl
  ·next e=>rw [cK,mW (fun z=>e (by injection z))];exact xV .an
section
variable {X:Cx}{d k:Expr}{pos:Pos}{fd fk:FE}
def iY:T->T->Option T
 | .dct ns ts,.str x=>GQ ns ts x
 |_,_=>none
theorem E5 {p z t:T}(h:iY p z=some t):∃ns ts x,p=.dct ns ts/\z=.str x/\GQ ns ts x=some t:=by
 unfold iY at h
 split at h
 ·exact⟨_,_,_,rfl,rfl,h⟩
 ·cases h
theorem lA (hu:.bf)(hd:SE X d fd)(hk:SE X k fk)(hs:Mt k):SE X (.ab d k) (au iY fd fk):=fun Y0 Y9=>PE.weak (K6 .e (hd Y0 Y9) (hk Y0 Y9) hs) fun σ H Q G=>by
 obtain⟨F,τ,t,τ',E,e1,q⟩:=G
 obtain⟨⟨p,τ1⟩,e2,e1⟩:=bind_some e1
 obtain⟨⟨z,τ2⟩,e3,e1⟩:=bind_some e1
 obtain⟨u,e4,e1⟩:=bind_some e1
 cases e1
 obtain⟨ns,ts,x,rfl,rfl,e5⟩:=E5 e4
 refine⟨F,τ,_,τ1,E,e2,fun F1 H1 m V s1 r1=>⟨F1,τ1,_,_,V,e3,fun F2 H2 l R s2 r2=>?_⟩⟩
 obtain⟨a,ob,vs,rfl,h1,h2,W⟩:=Rep.mono s2 r1
 cases r2
 obtain⟨y,k1,k2⟩:=Jx W e5
 exact⟨a,y,rfl,.inl ⟨_,.inr x,.bg ⟨ob,R.g.fh _ _ h1⟩,rfl,k1.symm⟩,q F2 H2 y R .a8 k2⟩
noncomputable def qQ (neg:Bool):T->T->Option T
 | .str x,.dct ns _=>some (.bl (xor neg (hJ ns x)))
 |_,_=>none
theorem zU {neg:Bool}{p z t:T}(h:qQ neg z p=some t):∃ns ts x,p=.dct ns ts/\z=.str x/\t=.bl (xor neg (hJ ns x)):=by
 unfold qQ at h
 split at h
 ·cases h;exact⟨_,_,_,rfl,rfl,rfl⟩
 ·cases h
theorem Ny (hu:.bf):lZ X (.ae .In) (qQ false):=fun pins s σ H x y v u Q I L Z G=>by
 obtain⟨F,a,b,t,sm,r1,r2,e,q⟩:=G
 obtain⟨ns,ts,z,rfl,rfl,rfl⟩:=zU e
 cases r1
 obtain⟨p,ob,vs,rfl,h1,h2,W⟩:=r2
 cases Z
 refine Pg .e I (.inl ⟨_,.inr z,.bg ⟨ob,sm _ _ h1⟩,rfl,rfl⟩) L fun s' l=>⟨.bl _,H,l,rfl,?_⟩
 refine q F H _ .ai ?_
 rw [xV h2,Bool.false_xor]
 rfl
theorem FF (hu:.bf):lZ X (compareOp .NotIn) (qQ true):=fun pins s σ H x y v u Q I L Z G=>by
 obtain⟨F,a,b,t,sm,r1,r2,e,q⟩:=G
 obtain⟨ns,ts,z,rfl,rfl,rfl⟩:=zU e
 cases r1
 obtain⟨p,ob,vs,rfl,h1,h2,W⟩:=r2
 cases Z
 refine JZ .e I (.inl ⟨_,.inr z,.bg ⟨ob,sm _ _ h1⟩,rfl,rfl⟩) L fun s' l=>⟨.bl _,H,l,rfl,?_⟩
 refine q F H _ .ai ?_
 rw [xV h2,Bool.true_xor]
 rfl
def wb:List T->Option T
 |[.dct ns _]=>some (.int ns.length)
 |ts=>cJ ts
theorem p8:∀{ns:.V} {vs:List V},vs.length=ns.length->(cK ns vs).length=ns.length
 |[],[],_=>rfl
 |_::_,[],h=>by cases h
 |[],_::_,h=>by cases h
 |n::ns,v::vs,h=>by
  rw [cK,List.length_cons,List.length_cons,p8 .an]
theorem EN:gk X .gs (fun xs H Q=>∃a kvs,xs=[.ref a]/\Rd H a .ba/\Q (.int kvs.length) H):=by
 intro pins s σ H xs us Q I r h
 obtain⟨p,kvs,rfl,hq,q⟩:=h
 obtain⟨u,rfl,L⟩:=vals1 r
 cases L
 exact Ph I hq fun t s' l=>⟨.int kvs.length,H,l,⟨t,rfl⟩,q⟩
theorem JN:gY X .gs wb:=fun pins s σ H xs us Q I L G=>by
 obtain⟨F,ts,t,sm,r,e,q⟩:=G
 unfold wb at e
 split at e
 ·cases e
  obtain⟨v,w,rfl,⟨a,ob,vs,rfl,h1,h2,W⟩,rfl⟩:=r
  refine EN pins s σ H _ us Q I L ⟨a,_,rfl,.bg ⟨ob,sm _ _ h1⟩,?_⟩
  rw [p8 h2]
  exact .eY
 ·exact dr pins s σ H xs us Q I L ⟨F,ts,t,sm,r,e,q⟩
end
end TM
namespace L2
open PySem PySem.Spec PyProof.Rows
section
variable {X:Cx}{pins:.v}{σ:St}{H:Hp}{s:Shared}{p:Addr}{kvs:.bW}
theorem Inv.freeze (I:.u)(e:H p=some .ba):∃o,Inv X pins σ (.aj p .dA) s:=by
 have q:=I.hok p _ e
 obtain⟨z,hd,vs,rel,dd⟩:=GV I.hok e
 obtain⟨o,es,ep,ho,r⟩:=id dd
 have ne:∀b u,H b=some u->(∀kvs,u≠.dK kvs)->b≠p:=fun b u C n z=>by
  subst z;rw [e] at C;cases C;exact n _ rfl
 have a:∀b xs,H b=some .fv->upd H p .dA b=some _:=fun b xs C=>by rw [ay (ne b _ C fun _ z=>by cases z)];exact C
 have hok:lW X.prog X.w (.aj p .dA) s.heap:=fun b u C=>by
  by_cases hb:b=p
  ·subst hb
   rw [aM] at C;cases C
   exact⟨ho,q.stay (fun _ _ _ k=>k) (fun c k=>by rw [ay (ne c _ k fun _ z=>by cases z)];exact k) a⟩
  ·rw [ay hb] at C
   exact (I.hok b u C).stay (fun _ _ _ k=>k) (fun c k=>by rw [ay (ne c _ k fun _ z=>by cases z)];exact k) a
 refine⟨o,I.step (ch:=[]) (fun b hb=>nomatch hb) (fun b o _ _ _ k _=>k) (fun b o _ _ _ k _=>⟨o.slots,k⟩) (fun b o _ k n=>?_) (fun b o _ k=>⟨o,k⟩) a (fun b o' u C=>?_) (fun b ps C=>⟨#[],?_⟩) (fun m hm=>hm) hok I.bare⟩
 ·rw [ay (fun z=>by subst z;rw [e] at n;cases n)];exact n
 ·rw [ay (ne b _ C fun _ z=>by cases z)];exact C
 ·rw [ay (ne b _ C fun _ z=>by cases z),C];simp
end
theorem Ll {P:.ah}{w:World}{k:Key}{u:Value}(h:(dP P w).is k u=true):RelV (kV k) u:=by
 cases k with
 |inl i=>obtain⟨t,rfl⟩:=Value.isInt_shape (h);exact⟨t,rfl⟩
 |inr x=>obtain⟨t,rfl⟩:=Value.isStrOf_shape (h);exact⟨t,rfl⟩
theorem B2 {X:Cx}{pins:.v}{σ:St}{H:Hp}{s:Shared}{d:Addr}{o:Obj}{kvs:.bW}{es:Array DictEntry}{ep:Nat}(I:.u)(e:H d=some .dA)(ho:o.data=.dict es ep):
  ∃vs,KV kvs vs/\s.heap.DictAt (dP X.prog X.w) d vs ep:=by
 obtain⟨h1,h2⟩:=I.hok d _ e
 obtain⟨z,hd,vs,rel,o',g,i,k1,k2,k3,L⟩:=h2
 rw [h1] at k1;cases k1
 rw [ho] at k3;cases k3
 exact⟨vs,rel,o,es,h1,k2,ho,L⟩
section
variable {X:Cx}{tg l:Expr}
end
theorem KV.at {kvs:.bW}{vs:List (Key×Value)}(r:KV kvs vs):∀{i:Nat} {k:Key} {v:Value},vs[i]? = some (k,v)->∃G,kvs[i]? = some G/\G.1=k/\RelV G.2 v:=by
 induction r with
 |nil=>intro i k v e;cases i<;>cases e
 |cons h t A =>
  intro i k v e
  cases i with
  |zero=>cases e;exact⟨_,rfl,h.1,h.2⟩
  |succ i=>exact A .fE
theorem ij:entryFor table "dict_itemiterator.__iter__" = some Builtin.«dict_keyiterator.__iter__»:=
 entryFor_alias (id' := "dict_keyiterator.__iter__") .a rfl .c .a
noncomputable def RX (d:Addr)(o:Obj)(kvs:.bW):It:=
 ⟨fun i H=>H d=some .dA/\i<kvs.length,fun i H x H'=>∃p G,x=.ref p/\H p=none/\kvs[i]? = some G/\H'=upd H p .gC,fun i H=>H d=some .dA/\i=kvs.length⟩
theorem CO {P:.ah}{w:World}{K:.l}{elts:.av}{kx:Nat}{px:Pos}(it d:Addr)(o:Obj)(es:Array DictEntry)(ep:Nat)(ho:o.data=.dict es ep)(kvs:.bW):
  Turn P w K .eb (RX d o kvs) [it] it (fun i h=>∃ok z,IsItemIter h it d i kvs.length ep ok z) where
 mem:=.h
 obj:=fun i h st b hb=>by
  have e:b=it:=by simpa using hb
  subst e
  obtain⟨ok,z,st⟩:=st
  exact⟨_,st,fun v q=>nomatch (show Data.fields _=Data.cell v from q)⟩
 keep:=fun i h h' st k=>by obtain⟨ok,z,st⟩:=st;exact⟨ok,z,k it .h _ st⟩
 item:=by
  intro X j L Y U i pins s σ H E I hf st M
  subst j L Y
  obtain⟨f0,f1,f2,T,f4,F⟩:=hf it .h
  obtain⟨e,hi⟩:=M
  obtain⟨vs,rel,dd⟩:=B2 I e ho
  have hlen:=rel.length
  obtain⟨ok,z,st⟩:=st
  obtain⟨⟨k,v⟩,hx⟩:∃p,vs[i]? = some p:=⟨vs[i],.h⟩
  obtain⟨G,l,rfl,f⟩:=rel.at hx
  rw [hlen] at st
  refine wpAny_pyNext_items_item st dd hx fun key h' g a1 a2 a3 S=>⟨_,rfl,?_⟩
  refine wpAny_letOwnedTupleGo_items (s:={ s with heap:=h' }) a1 fun h2 b1 b2=>?_
  have kp:∀b o,b∉[it]->s.heap.get? b=some o->h2.get? b=some o:=fun b o hb e=>by
   have y:b≠it:=by simpa using hb
   exact b2.extBut _ _ y (S b o y e)
  have a:it<s.heap.objs.size:=Heap.lt_size st
  have pr:h2.get? s.heap.objs.size=some { cls:=.type "tuple", data:=.seq #[key,v] }:=b2.extBut _ _ (za6 a) a2
  have fr:H s.heap.objs.size=none:=I.hok.fresh .b8
  have t:lW X.prog X.w (.O .gC) h2:=by
   intro c o e
   by_cases B:c=s.heap.objs.size
   ·subst B
    rw [aM] at e;cases e
    exact⟨by show 2≤sizeLine;decide,[key,v],.cons (Ll g) (.ar f),_,pr,rfl,_,rfl⟩
   ·rw [ay B] at e
    have C:∀d o',H d=some o'->d∉[it]:=fun d o' R hd=>by rw [(hf d hd).1] at R;cases R
    have up:∀d o',H d=some o'->upd H s.heap.objs.size .gC d=some o':=fun d o' R=>by rw [ay (bp R fr)];exact R
    refine (I.hok c o e).stay (fun d v' hd q=>kp d v' ?_ q) (fun d q=>up d _ q) fun d xs q=>up d _ q
    rcases hd with rfl | hd
    ·exact C _ o e
    ·exact C d _ hd
  have J:Inv X pins σ (.O .gC) { s with heap:=h2 }:=by
   have ne:∀b o,s.heap.get? b=some o->b≠s.heap.objs.size:=fun b o e=>zat .aF
   refine I.step (g':=s.gens) (d':=s.drawn) (t':=s.toks) (ch:=[it]) (fun b hb=>?_) .hA .eS (fun b o _ e n=>by rw [ay (ne b o e)];exact n)
    .gW (fun b xs e=>by rw [ay (bp e fr)];exact e) (fun b o u e=>by rw [ay (bp e fr)];exact e) (fun b ps e=>⟨#[],by rw [ay (bp e fr),e];simp⟩) (fun m hm=>?_) t I.bare
   ·obtain⟨_,f1,_,T,f4,F⟩:=hf b hb
    exact⟨T,f1,f4,F⟩
   ·obtain⟨o,es,ep,ho,r⟩:=hm
    exact⟨o,es,ep,kp _ o (fun q=>(hf _ q).2.1 rfl) ho,r⟩
  rw [<- hlen] at b1
  refine⟨.ref s.heap.objs.size,_,J,rfl,⟨_,G,rfl,fr,l,rfl⟩,⟨_,_,b1⟩,fun b hb=>?_⟩
  have e:b=it:=by simpa using hb
  subst e
  rw [ay (zat a)]
  exact f0
 done:=by
  intro X j L Y U i pins s σ H E I hf st M
  subst j L Y
  obtain⟨f0,f1,f2,T,f4,F⟩:=hf it .h
  obtain⟨e,rfl⟩:=M
  obtain⟨vs,rel,dd⟩:=B2 I e ho
  obtain⟨ok,z,st⟩:=st
  have hlen:=rel.length
  rw [hlen] at st
  exact wpAny_pyNext_items_end .cX st dd .h fun h' kk=>⟨rfl,I.turned (t':=s.toks) (fun b o hb e=>kk b o hb e) f0 f1 T f4 F⟩
 self:=fun A i s Q E st h=>by
  obtain⟨ok,z,st⟩:=st
  have N:s.TypeIs .g1 "dict_itemiterator" := ⟨_,st,rfl⟩
  refine wpAny_pyIter_slot N zbG (wpAny_call_entry zbG N ij ?_ (PySem.F.args_dict_itemiterator_iter_1 _))
  show wpAny _ _ (ret .g1) _ _ s
  exact wpAny_pure ⟨_,rfl,"dict_itemiterator", _,N,PySem.F.slot_dict_itemiterator_next.lookup,h⟩
section
variable {X:Cx}{l:Expr}{elts:.av}{kx:Nat}{px apos cpos:Pos}
noncomputable def M3 (tl:TE):TI:=fun σ H R=>tl σ H fun x H1=>∃d o kvs,x=.ref d/\H1 d=some .dA/\R (RX d o kvs) H1
theorem II {tl:TE}(hl:PE X l tl)(j:attributeBase l "items" X.env (.Z l)=eval l X.env:=by rfl)(c:.d8=true:=by rfl):PI X .eb (.Call (.Attribute l "items" apos) [] [] cpos) (M3 tl):=by
 intro pins s σ H R I h
 refine wpAny_Call_method0_late j c (df (hl pins s σ H _ I h) fun v s1 .ay=>?_)
 obtain⟨d,o,kvs,rfl,e,q⟩:=q1
 cases r1
 obtain⟨t1,t2,_⟩:=M5 O (.inl ⟨kvs,.inr ⟨o,e⟩⟩)
 refine⟨"dict","dict.items", PySem.F.plainAttrs_dict,PySem.F.slot_dict_items,PySem.F.type_dict_items,t1,t2,Calls.callWith_builtin rfl (PySem.evalArgs_none ?_)⟩
 obtain⟨h1,z,hd,vs,rel,o',es,ep,k1,k2,k3,L⟩:=O.hok d _ e
 rw [h1] at k1;cases k1
 obtain⟨u,a,dd⟩:=B2 O e k3
 refine call_meetsIn PySem.F.slot_dict_items t1 PySem.F.entry_dict_items (PySem.F.args_dict_items_1 _) (meets_dict_items (dP X.prog X.w) d hd) ⟨⟨u,dd.dictOf⟩,?_⟩
 refine wpAny_pyIter_items (v:=s1.heap.objs.size) .d6 (dd.push _) ?_
 rw [<- a.length]
 have J:=O.kept (t':=s1.toks) (h':=(s1.heap.push { cls:=.type "dict_items", data:=.fields #[.ref d] }).push { cls:=.type "dict_itemiterator", data:=.fields #[.none,.bool false,.ref d,.int 0 0,.int kvs.length 0,.int ep 0,.none,.none] }) fun b o e=>Heap.get?_push_of_some _ (.H e)
 refine⟨_,[_],_,_,H1,rfl,J,CO _ d o es ep k3 kvs,⟨_,_,.ac⟩,fun b hb=>?_,q⟩
 have e:b=(s1.heap.push { cls:=.type "dict_items", data:=.fields #[.ref d] }).objs.size:=by simpa using hb
 subst e
 have hz:s1.heap.objs.size≤(s1.heap.push { cls:=.type "dict_items", data:=.fields #[.ref d] }).objs.size:=by rw [Heap.size_push];omega
 exact .ak hz
end
end L2
namespace TM
open PySem PySem.Spec PyProof.Rows L2
theorem HG {K:.l}{F:Hp}:∀{ns:.V} {ts:List T} {vs:List V} {i:Nat} {G:Key×V},aU K F ts vs->vs.length=ns.length->(cK ns vs)[i]? = some G->∃n t,ns[i]? = some n/\ts[i]? = some t/\G.1=.inr n/\Rep K F t G.2
 |[],_,vs,i,G,_,h,e=>by cases vs with | nil=>simp [cK] at e | cons v vs=>cases h
 |n::ns,ts,[],i,G,_,h,e=>by cases h
 |n::ns,[],v::vs,i,G,r,h,e=>by cases r
 |n::ns,t::ts,v::vs,0,G,r,h,e=>by
  obtain⟨v',w,z,h1,h2⟩:=r
  cases z
  simp [cK] at e
  subst e
  exact⟨n,t,rfl,rfl,rfl,h1⟩
 |n::ns,t::ts,v::vs,i+1,G,r,h,e=>by
  obtain⟨v',w,z,h1,h2⟩:=r
  cases z
  obtain⟨m,u,k1,k2,k3,L⟩:=HG h2 .an (by simpa [cK] using e)
  exact⟨m,u,by simpa using k1,by simpa using k2,k3,L⟩
def gw:List Str->List T->List T
 |n::ns,t::ts=>.tup [.str n,t]::gw ns ts
 |_,_=>[]
theorem tY:∀{ns:.V} {ts:List T} {i:Nat} {u:T},(gw ns ts)[i]? = some u->∃n t,ns[i]? = some n/\ts[i]? = some t/\u=.tup [.str n,t]
 |[],_,i,u,e=>by simp [gw] at e
 |_::_,[],i,u,e=>by simp [gw] at e
 |n::ns,t::ts,0,u,e=>by simp [gw] at e;exact⟨n,t,rfl,rfl,e.symm⟩
 |n::ns,t::ts,i+1,u,e=>by
  obtain⟨m,v,k1,k2,k3⟩:=tY (by simpa [gw] using e)
  exact⟨m,v,by simpa using k1,by simpa using k2,k3⟩
theorem oh:∀{ns:.V} {ts:List T},ts.length=ns.length->(gw ns ts).length=ns.length
 |[],[],_=>rfl
 |_::_,[],h=>by cases h
 |[],_::_,h=>by cases h
 |n::ns,t::ts,h=>by rw [gw,List.length_cons,List.length_cons,oh .an]
theorem Bo {K:.l}{F:Hp}{d:Addr}{o:Obj}{ns:.V}{ts:List T}{vs:List V}(e:F d=some (.frz o (.dK (cK ns vs))))(hl:vs.length=ns.length)(r:.gO):TM.Walks K F (gw ns ts) (RX d o (cK ns vs)):=by
 have Y:ts.length=ns.length:=by rw [<- hl,r.length]
 refine⟨fun i t F1 H1 h s1 s2=>⟨s2 _ _ (s1 _ _ e),?_⟩,fun i t F1 H1 v H2 h s1 s2 y=>?_,fun F1 H1 s1 s2=>⟨s2 _ _ (s1 _ _ e),?_⟩⟩
 ·rw [p8 hl,<- oh Y]
  exact (zav.mp h).1
 ·obtain⟨p,G,rfl,hp,h1,rfl⟩:=y
  obtain⟨n,u,k1,k2,k3,L⟩:=HG r hl h1
  obtain⟨b,w,m,l,rfl⟩:=tY h
  rw [k1] at m;cases m
  rw [k2] at l;cases l
  have A:=bj.new .gC s2 hp
  refine⟨_,A,p,_,rfl,nv.of aM,_,[_],rfl,?_,_,[],rfl,Rep.mono .gT L,rfl⟩
  rw [k3]
  rfl
 ·rw [p8 hl,oh Y]
section
variable {X:Cx}{tg l:Expr}{f:FE}
noncomputable def jr (f:FE):FA:=fun τ=>(f τ).bind fun p=>match p.1 with | .dct ns ts=>some (gw ns ts,p.2) | _=>none
theorem Bc {elts:.av}{kx:Nat}{px apos cpos:Pos}(h:SE X l f)(j:attributeBase l "items" X.env (.Z l)=eval l X.env:=by rfl)(c:.d8=true:=by rfl):SI X .eb (.Call (.Attribute l "items" apos) [] [] cpos) (jr f):=fun Y0 Y9=>PI.weak (II .c8 j c) fun σ H R G=>by
 obtain⟨F,τ,ts,τ',E,e1,q⟩:=G
 obtain⟨⟨p,τ1⟩,e2,e1⟩:=bind_some e1
 cases p with
 |dct ns us =>
  cases e1
  refine⟨F,τ,_,_,E,e2,fun F1 H1 v V s1 r1=>?_⟩
  obtain⟨a,ob,vs,rfl,h1,h2,W⟩:=r1
  exact⟨a,ob,_,rfl,V.g.fh _ _ h1,q F1 H1 _ V s1 (Bo h1 h2 W)⟩
 |_=>cases e1
end
section
variable {X:Cx}
theorem xb:∀(k:Nat) (ys:.V),Vals (ys.map V.str) (strsFrom k ys)
 |_,[]=>.nil
 |k,y::ys=>.cons .al (xb _ ys)
theorem wN {K:.l}{F:Hp}:∀ys:List Str,aU K F (ys.map T.str) (ys.map V.str)
 |[]=>rfl
 |y::ys=>⟨_,_,rfl,rfl,wN ys⟩
theorem BD {prog:.ah}{w:World}{A:Around}{E:.o}{s:Shared}{x y:Str}{t u:Tok}{Q:.o}(R:(y.length == 0)=false)(hsz:x.length≤sizeLine)(hl:(Txt.split x y).length≤sizeLine)
  (h:∀us k,Vals ((Txt.split x y).map V.str) us->Q .a6 { s with heap:=s.heap.push { cls:=.type "list", data:=.seq us.toArray },toks:=k }):
  wpAny .Q A (call (.builtin "str.split") [.str x t,.str y u]) Q E s:=by
 cases c1:(decide (x.length<y.length)||decide (Builtin.Str.strKind x<Builtin.Str.strKind y)) with
 |true =>
  have e:Txt.split x y=[x]:=by unfold Txt.split;rw [if_pos c1]
  rw [e] at h
  exact .u (meets_str_split_cannot_occur x y t u c1) (h [.str x t] _ (.ar .al))
 |false =>
  cases c2:(Builtin.Str.occurrences x y 0 x.length _).isEmpty with
  |true =>
   have e:Txt.split x y=[x]:=by unfold Txt.split;rw [if_neg (by rw [c1];decide),if_pos c2]
   rw [e] at h
   exact .u (meets_str_split_not_found x y t u c1 R c2) (h [.str x t] _ (.ar .al))
  |false =>
   have e:Txt.split x y=Builtin.Str.partsBetween x (Builtin.Str.occurrences x y 0 x.length (x.length+1)) y.length:=by unfold Txt.split;rw [if_neg (by rw [c1];decide),if_neg (by rw [c2];decide)]
   rw [e] at h hl
   exact .u (meets_str_split_sep x y t u c1 R c2 hsz hl) (h _ _ (xb _ _))
noncomputable def ip:T->T->Option T
 | .str a,.str b=>if (b.length == 0)=false/\a.length≤sizeLine/\(Txt.split a b).length≤sizeLine then some (.al ((Txt.split a b).map T.str)) else none
 |_,_=>none
theorem AE:LR X "str.split" ip:=by
 intro pins s σ H x vs v us Q I L f ⟨y,c,F,a,b,t,sm,m,D,e,q⟩
 subst c
 obtain⟨M,rfl,r1⟩:=Vals.one f
 unfold ip at e
 split at e
 ·next _ _ d O =>
  split at e
  ·next hl =>
   cases e;cases m;cases D
   obtain⟨t1,rfl⟩:=L
   obtain⟨t2,rfl⟩:=r1
   refine BD hl.1 hl.2.1 hl.2.2 fun us k N=>?_
   have hf:=I.fresh
   refine⟨.ref s.heap.objs.size,_,I.laid (fun b u e=> .cK) .b8 ?_,rfl,q _ _ _ (bj.new (.al ((Txt.split d O).map V.str)) sm hf) ⟨_,_,rfl,aM,wN _⟩⟩
   exact⟨by rw [zaf];exact hl.2.2,us,0,N,Heap.get?_push_size _ rfl⟩
  ·cases e
 ·cases e
theorem zY:∀a b t,ip a b=some t->∃x,a=.str x:=fun a b t h=>by
 unfold ip at h
 split at h
 ·exact⟨_,rfl⟩
 ·cases h
def JE:T->T->Option T
 | .str a,.str b=>some (.bl (Txt.startswith a b))
 |_,_=>none
theorem P8:LR X "str.startswith" JE:=by
 intro pins s σ H x vs v us Q I L f ⟨y,c,F,a,b,t,sm,m,D,e,q⟩
 subst c
 obtain⟨M,rfl,r1⟩:=Vals.one f
 unfold JE at e
 split at e
 ·cases e;cases m;cases D
  obtain⟨t1,rfl⟩:=L
  obtain⟨t2,rfl⟩:=r1
  exact SC.startswith ⟨.bl _,H,I,rfl,q F H _ .ai rfl⟩
 ·cases e
theorem PJ:∀a b t,JE a b=some t->∃x,a=.str x:=fun a b t h=>by
 unfold JE at h
 split at h
 ·exact⟨_,rfl⟩
 ·cases h
end
theorem CI {prog:.ah}{w:World}{A:Around}{E:.o}{s:Shared}{l:Addr}{items:.cv}{Q:List Value->Shared->Prop}(S:A.handled=none)(hl:s.heap.IsList l items)(h1:1≤items.size)(hz:items.size≤sizeLine)
  (h:∀(h':Heap) (tk:Nat),(∀b o,s.heap.get? b=some o->h'.get? b=some o)->Q (items.toList.take 1++[.ref h'.objs.size]) { s with heap:=h'.push { cls:=.type "list", data:=.seq (items.toList.drop 1).toArray },toks:=tk }):
  wpAny .Q A (unpackItems (.c l) 2 (some 1)) Q E s:=by
 have O:l≠s.heap.objs.size:=by obtain⟨o,ho,_⟩:=hl;exact zat (.aS ho)
 refine .f (.G (wpAny_specialOf hl.typeIs F.slot_list_iter.lookup .b0))
 simp only [if_false]
 refine .f (wpAny_holding (wpAny_pyIter_list hl (.G (wpAny_holding (W.kun_draw O 1 0 _ _ .d6 (hl.push _) .e fun f a c=>?_)))))
 have g:=(hl.push { cls:=.type "list_iterator", data:=.fields #[.ref l,.int 0 0] }).extBut c.extBut O
 have i:=a
 obtain⟨p,i,_⟩:=i
 have d:=g
 obtain⟨ol,d,_⟩:=d
 rw [List.drop_zero]
 have r:(items.toList.take 1).length=1:=by rw [zaV,zbF];omega
 rw [if_neg .e]
 refine .f (wpAny_holding (W.kun_collect (.inr (.inr .bM)) (Walks.list (A:=A.in1) S s.heap.objs.size l O items) (fun j u st=>Heap.IsListIter.typeIs (And.left st)) h1 ⟨a,g⟩ (.aS i) (.aS d) (fun k tk hk=>?_) hz))
 rw [if_neg .e,Nat.sub_zero,zcd,zbE]
 refine .f (wpAny_newList ?_)
 refine wpAny_pure ?_
 rw [zaA]
 have kp:∀b o,s.heap.get? b=some o->k.get? b=some o:=fun b o e=>by
  have hb:=zat .aF
  exact hk b o hb (c.extBut b o hb (.H e))
 exact h k _ kp
section
variable {X:Cx}{e1 e2:Expr}{ps pos:Pos}
def xU (gs:.bH):FG:=fun t τ=>match t with
 | .lst (a::ts)=>gs [a,.lst ts] τ
 |_=>none
theorem Lq {gs:.bH}{k:Nat}(U:.bt)(h:Mv X [e1,e2] gs)(hm:(assignEach [e1,.Starred e2 ps] X.env).map (·.2)=(assignEach [e1,e2] X.env).map (·.2):=by rfl)
  (hn:(assignEach [e1,.Starred e2 ps] X.env).length=2:=by rfl) (J:(assignEach [e1,.Starred e2 ps] X.env).findIdx? (·.1)=some 1:=by rfl):SG X (.Tuple [e1,.Starred e2 ps] k pos) (xU gs):=fun Y0 Y9 pins s σ H v u Q I r h'=>by
 obtain⟨F,τ,t,τ',E,rt,e1,q⟩:=h'
 unfold xU at e1
 split at e1
 ·next a ts =>
  obtain⟨p,xs,rfl,h1,v0,l,rfl,h2,W⟩:=rt
  cases r
  obtain⟨G,f,Y,hz⟩:=I.list (gE.of (E.g.fh _ _ h1))
  cases f with
  |@cons _ i _ g d rs =>
   refine .f (wpAny_standAt ?_)
   unfold unpack
   rw [J,hn,hm]
   refine wpAny_bind (wpAny_holding (CI .cX Y.isList .h (by rw [List.size_toArray];simpa [rs.length] using hz) fun h' tk k1=>?_))
   have c:l.length≤sizeLine:=by have:=rs.length;simp at hz;omega
   have K:=I.kept (t':=s.toks) k1
   have hf:=K.hok.fresh .b8
   have A:=bj.new (.al l) E.g.fh hf
   exact h Y0 Y9 pins _ σ _ [v0,.ref h'.objs.size] _ Q (K.laid (t':=tk) (o:=.lst l) (fun b o e=> .cK) .b8 ⟨c,g,0,rs,.ac⟩) (.cons d (.ar rfl)) ⟨_,τ,[a,.lst ts],τ',E.grow A,⟨_,_,rfl,Rep.mono A.sF h2,_,_,rfl,⟨_,l,rfl,aM,aU.mono A.sF W⟩,rfl⟩,e1,fun F' H' σ' Z s'=>q F' H' σ' Z (A.sF.trans s')⟩
 ·cases e1
end
abbrev DS:=List Str×List T
noncomputable def putN:List Str->Str->List Str
 |[],k=>[k]
 |n::ns,k=>if n=k then n::ns else n::putN ns k
noncomputable def lU {α:Type}:List Str->List α->Str->α->List α
 |n::ns,v::vs,k,w=>if n=k then w::vs else v::lU ns vs k w
 |_,_,_,w=>[w]
def DS.put (d:DS)(k:Str)(t:T):DS:=(putN d.1 k,lU d.1 d.2 k t)
theorem GC {k:Str}:∀{ns:.V} {vs:List V},vs.length=ns.length->((cK ns vs).any fun G=>decide (G.1=Sum.inr k))=hJ ns k
 |[],[],_=>rfl
 |[],_::_,h=>by cases h
 |n::ns,[],h=>by cases h
 |n::ns,v::vs,h=>by
  rw [cK,List.any_cons,GC .an,hJ]
  by_cases e:n=k
  ·subst e;simp
  ·rw [if_neg e]
   have:¬ ((Sum.inr n:Key)=Sum.inr k):=fun z=>e (by injection z)
   simp [this]
theorem wD {k:Str}{w:V}:∀{ns:.V} {vs:List V},vs.length=ns.length->hJ ns k=false->(cK ns vs).map (fun G=>if G.1=Sum.inr k then (G.1,w) else G)=cK ns vs
 |[],[],_,_=>rfl
 |[],_::_,h,_=>by cases h
 |n::ns,[],h,_=>by cases h
 |n::ns,v::vs,h,e=>by
  rw [hJ] at e
  split at e
  ·cases e
  ·next hn =>
   have:¬ ((Sum.inr n:Key)=Sum.inr k):=fun z=>hn (by injection z)
   rw [cK,List.map_cons,wD .an e]
   simp [this]
theorem ub {α:Type}{k:Str}{w:α}:∀{ns:.V} {vs:List α},vs.length=ns.length->(lU ns vs k w).length=(putN ns k).length
 |[],[],_=>rfl
 |[],_::_,h=>by cases h
 |n::ns,[],h=>by cases h
 |n::ns,v::vs,h=>by
  rw [lU,putN]
  split
  ·simpa using h
  ·rw [List.length_cons,List.length_cons,ub .an]
theorem GF {k:Str}{w:V}:∀{ns:.V} {vs:List V},vs.length=ns.length->hJ ns k=false->cK ns vs++[(Sum.inr k,w)]=cK (putN ns k) (lU ns vs k w)
 |[],[],_,_=>rfl
 |[],_::_,h,_=>by cases h
 |n::ns,[],h,_=>by cases h
 |n::ns,v::vs,h,e=>by
  rw [hJ] at e
  split at e
  ·cases e
  ·next hn=>rw [cK,List.cons_append,GF .an e,putN,lU,if_neg hn,if_neg hn,cK]
theorem Dz {k:Str}:∀{ns:.V},hJ ns k=true->k∈ns
 |[],e=>by cases e
 |n::ns,e=>by
  rw [hJ] at e
  split at e
  ·next h=>subst h;exact zad
  ·exact zae _ (Dz e)
theorem HQ {k:Str}{w:V}:∀{ns:.V} {vs:List V},vs.length=ns.length->ns.Nodup->hJ ns k=true->(cK ns vs).map (fun G=>if G.1=Sum.inr k then (G.1,w) else G)=cK (putN ns k) (lU ns vs k w)
 |[],_,_,_,e=>by cases e
 |n::ns,[],h,_,_=>by cases h
 |n::ns,v::vs,h,d,e=>by
  rw [hJ] at e
  have hl:vs.length=ns.length:=by simpa using h
  rw [za0] at d
  by_cases hn:n=k
  ·subst hn
   have g:hJ ns n=false:=by
    cases z:hJ ns n with
    |false=>rfl
    |true=>exact absurd (Dz z) d.1
   rw [putN,lU,.eZ,.eZ,cK,zag,wD hl g,cK]
   simp
  ·rw [if_neg hn] at e
   have:¬ ((Sum.inr n:Key)=Sum.inr k):=fun z=>hn (by injection z)
   rw [putN,lU,if_neg hn,if_neg hn,cK,zag,HQ hl d.2 e,cK]
   simp [this]
theorem kN {k:Str}:∀{ns:.V},ns.Nodup->(putN ns k).Nodup
 |[],_=>by simp [putN]
 |n::ns,d=>by
  rw [putN]
  split
  ·exact d
  ·next h =>
   rw [za0] at d ⊢
   refine⟨fun m=>?_,kN d.2⟩
   have key:∀{ns:.V},n∈putN ns k->n∈ns\/n=k:=fun {ns} m=>by
    induction ns with
    |nil=>exact .inr (by simpa [putN] using m)
    |cons a ns A =>
     rw [putN] at m
     split at m
     ·exact .inl m
     ·rcases zao.mp m with m | m
      ·exact .inl (by rw [m];exact zad)
      ·exact (A m).imp (zae _) id
   rcases key m with m | m
   ·exact d.1 m
   ·exact h m
theorem DX {k:Str}{w:V}{ns:.V}{vs:List V}(h:vs.length=ns.length)(d:ns.Nodup):putK (cK ns vs) (Sum.inr k) w=cK (putN ns k) (lU ns vs k w):=by
 unfold putK
 rw [GC h]
 cases e:hJ ns k with
 |true=>rw [if_pos rfl];exact HQ h d e
 |false=>rw [if_neg .f];exact GF h e
theorem uc {K:.l}{F:Hp}{k:Str}{t:T}{w:V}(r:Rep K F t w):∀{ns:.V} {ts:List T} {vs:List V},vs.length=ns.length->aU K F ts vs->aU K F (lU ns ts k t) (lU ns vs k w)
 |[],[],[],_,_=>⟨w,[],rfl,r,rfl⟩
 |[],_,_::_,h,_=>by cases h
 |[],_::_,[],_,z=>by obtain⟨_,_,z,_⟩:=z;cases z
 |n::ns,_,[],h,_=>by cases h
 |n::ns,[],_::_,_,z=>by cases z
 |n::ns,t'::ts,v::vs,h,z=>by
  obtain⟨v',B,e,h1,h2⟩:=z
  cases e
  rw [lU,lU]
  split
  ·exact⟨_,_,rfl,r,h2⟩
  ·exact⟨_,_,rfl,h1,uc r .an h2⟩
structure uR (K:.l)(Y0 Y9 F H:Hp)(σ:L2.St)(τ:aE)(x:Nat)(p:Addr)(d:DS):Prop where
 E:aJ K Y0 Y9 F H σ τ
 hx:τ[x]? = some .eu
 hp:∃vs,H p=some (.dK (cK d.1 vs))/\vs.length=d.1.length/\aU K F d.2 vs
 nd:d.1.Nodup
 fp:F p=none
 h0:Y9 p=none
section
variable {K:.l}{Y0 Y9 F H F' H':Hp}{σ σ':L2.St}{τ τ':aE}{x:Nat}{p:Addr}{d:DS}
def lH (Y9 H:Hp)(p:Addr):Hp:=fun b=>if b=p then H p else Y9 b
theorem tu:lH Y9 H p p=H p:=.eZ
theorem mB {b:Addr}(h:b≠p):lH Y9 H p b=Y9 b:=if_neg h
theorem uR.lend (D:.el):aJ K Y0 (lH Y9 H p) F H σ τ:=by
 obtain⟨b,hp,_⟩:=D.hp
 refine⟨⟨D.E.g.sF,fun a o e=>?_,D.E.g.fh,fun a o e=>?_⟩,D.E.len,fun i s e=>?_,D.E.dj⟩
 ·by_cases m:a=p
  ·subst m;rw [tu] at e;exact e
  ·rw [mB m] at e;exact D.E.g.sH _ _ e
 ·have m:a≠p:=fun m=>by subst m;rw [D.fp] at e;cases e
  rcases D.E.g.nw a o e with z | z
  ·exact .inl z
  ·exact .bg (by rw [mB m];exact z)
 ·obtain⟨v,h1,h2⟩:=D.E.sl i s e
  refine⟨v,h1,?_⟩
  cases s with
  |sh t=>exact h2
  |own ts =>
   obtain⟨q,vs,rfl,k1,k2,k3,L⟩:=h2
   exact⟨q,vs,rfl,k1,k2,by rw [mB fun z=>by subst z;rw [hp] at k1;cases k1];exact k3,L⟩
theorem uR.back (D:.el)(Z:aJ K Y0 (lH Y9 H p) F' H' σ' τ')(s:aW F F')(hx:τ'[x]? = some .eu):uR K Y0 Y9 F' H' σ' τ' x p d:=by
 obtain⟨b,hp,hl,hr⟩:=D.hp
 have out:∀{a:Addr},lH Y9 H p a=none->a≠p/\Y9 a=none:=fun {a} e=>by
  have m:a≠p:=fun m=>by subst m;rw [tu,hp] at e;cases e
  exact⟨m,by rw [mB m] at e;exact e⟩
 refine⟨⟨⟨Z.g.sF,fun a o e=>?_,Z.g.fh,fun a o e=>?_⟩,Z.len,fun i s e=>?_,Z.dj⟩,hx,⟨b,Z.g.sH _ _ (by rw [tu];exact hp),hl,aU.mono s hr⟩,D.nd,?_,D.h0⟩
 ·have m:a≠p:=fun m=>by subst m;rw [D.h0] at e;cases e
  exact Z.g.sH _ _ (by rw [mB m];exact e)
 ·rcases Z.g.nw a o e with z | z
  ·exact .inl z
  ·exact .inr (out z).2
 ·obtain⟨v,h1,h2⟩:=Z.sl i s e
  refine⟨v,h1,?_⟩
  cases s with
  |sh t=>exact h2
  |own ts =>
   obtain⟨q,vs,rfl,k1,k2,k3,L⟩:=h2
   exact⟨q,vs,rfl,k1,k2,(out k3).2,L⟩
 ·cases n:F' p with
  |none=>rfl
  |some o =>
   rcases Z.g.nw p o n with z | z
   ·have:=D.E.g.sF _ _ z
    rw [D.fp] at this;cases this
   ·exact absurd rfl (out z).1
theorem uR.grow (D:.el)(g:bj F H F' H'):uR K Y0 Y9 F' H' σ τ x p d:=by
 obtain⟨b,hp,hl,hr⟩:=D.hp
 refine⟨D.E.grow g,D.hx,⟨b,g.sH _ _ hp,hl,aU.mono g.sF hr⟩,D.nd,?_,D.h0⟩
 cases n:F' p with
 |none=>rfl
 |some o =>
  rcases g.nw p o n with z | z
  ·rw [D.fp] at z;cases z
  ·rw [hp] at z;cases z
theorem uR.get (D:.el):σ[x]? = Option.some (Option.some (.c p)):=by
 obtain⟨v,h1,h2⟩:=D.E.sl x _ D.hx
 have:=h2
 rw [h1,this]
theorem uR.put (D:.el){k:Str}{t:T}{w:V}(r:Rep K F t w):∃kvs,H p=some .ba/\kvs.length=d.1.length/\uR K Y0 Y9 F (.aj p (.dK (putK kvs (Sum.inr k) w))) σ τ x p (d.put k t):=by
 obtain⟨b,hp,hl,hr⟩:=D.hp
 refine⟨_,hp,p8 hl,⟨⟨⟨D.E.g.sF,fun a o e=>?_,fun a o e=>?_,D.E.g.nw⟩,D.E.len,fun i s e=>?_,D.E.dj⟩,D.hx,⟨lU d.1 b k w,?_,ub hl,uc r hl hr⟩,kN D.nd,D.fp,D.h0⟩⟩
 ·rw [ay (fun z=>by subst z;rw [D.h0] at e;cases e)];exact D.E.g.sH _ _ e
 ·rw [ay (fun z=>by subst z;rw [D.fp] at e;cases e)];exact D.E.g.fh _ _ e
 ·obtain⟨v,h1,h2⟩:=D.E.sl i s e
  refine⟨v,h1,?_⟩
  cases s with
  |sh t=>exact h2
  |own ts =>
   obtain⟨q,vs,rfl,k1,k2,k3,L⟩:=h2
   exact⟨q,vs,rfl,by rw [ay (fun z=>by subst z;rw [hp] at k1;cases k1)];exact k1,k2,k3,L⟩
 ·rw [aM,DX hl D.nd]
  rfl
end
abbrev FZ:=Addr->DS->aE->Option (DS×aE)
noncomputable def tZ (K:.l)(Y0 Y9:Hp)(x:Nat)(f:FZ):TS:=fun D σ H=>∃F τ p d r,uR K Y0 Y9 F H σ τ x p d/\f p d τ=some r/\∀F' H' σ',uR K Y0 Y9 F' H' σ' r.2 x p r.1->aW F F'->D.nx σ' H'
def SZ (X:Cx)(x:Nat)(st:Stmt)(f:FZ):Prop:=∀Y0 Y9,PS X st (tZ X.K Y0 Y9 x f)
def JB (X:Cx)(x:Nat)(u:.bB)(f:FZ):Prop:=∀Y0 Y9,mY X u (tZ X.K Y0 Y9 x f)
section
variable {X:Cx}{e:Expr}{pos:Pos}{x:Nat}
def CV:FZ:=fun _ _ _=>none
theorem Ga {u:.bB}:JB X x u CV:=fun Y0 Y9=>mY.weak FL fun D σ H ⟨F,τ,p,d,r,q,e1,k⟩=>by cases e1
def uJ:FZ:=fun _ d τ=>some (d,τ)
def LM (f g:FZ):FZ:=fun p d τ=>(f p d τ).bind fun r=>g p r.1 r.2
theorem En:JB X x [] uJ:=fun Y0 Y9=>mY.weak rS fun D σ H G=>by
 obtain⟨F,τ,p,d,r,q,e1,k⟩:=G
 cases e1
 exact k F H σ q .d9
theorem rX {st:Stmt}{f:FZ}(h:SZ X x st f):JB X x [st] f:=fun Y0 Y9=>yO .c8
theorem Jn {st:Stmt}{rest:.bB}{f g:FZ}(h1:SZ X x st f)(h2:JB X x rest g):JB X x (st::rest) (LM f g):=fun Y0 Y9=>mY.weak (jb (h1 Y0 Y9) (h2 Y0 Y9)) fun D σ H G=>by
 obtain⟨F,τ,p,d,r,q,e1,k⟩:=G
 obtain⟨r1,e2,e1⟩:=bind_some e1
 exact⟨F,τ,p,d,r1,q,e2,fun F1 H1 l E s1=>⟨F1,r1.2,p,r1.1,r,E,e1,fun F2 H2 n J s2=>k F2 H2 n J .a8⟩⟩
noncomputable def RO (x:Nat)(c:FT)(f g:FZ):FZ:=fun p d τ=>(c τ).bind fun q=>if mx x p q.2=true then (if q.1=true then f p d q.2 else g p d q.2) else none
theorem QJ {c:Expr}{u us:.bB}{tc:FT}{f g:FZ}(U:ST X c tc)(ha:JB X x u f)(hb:JB X x us g):SZ X x (.If c u us pos) (RO x tc f g):=fun Y0 Y9=>PS.weak (IL U.any .cb .dE) fun D σ H G=>by
 obtain⟨F,τ,p,d,r,q,e1,k⟩:=G
 obtain⟨⟨b,τ1⟩,e2,e1⟩:=bind_some e1
 split at e1
 ·next hp =>
  refine⟨Y0,lH Y9 H p,F,τ,b,τ1,q.lend,e2,fun F' H' Z s'=>?_⟩
  have E:=q.back Z s' (iZ hp)
  split at e1
  ·next h=>dsimp only;rw [if_pos h];exact⟨F',τ1,p,d,r,E,e1,fun F2 H2 n J s2=>k F2 H2 n J (s'.trans s2)⟩
  ·next h=>dsimp only;rw [if_neg h];exact⟨F',τ1,p,d,r,E,e1,fun F2 H2 n J s2=>k F2 H2 n J (s'.trans s2)⟩
 ·cases e1
noncomputable def Ez (x:Nat)(fk:FE)(f g:FZ):FZ:=fun p d τ=>(fk τ).bind fun q=>match q.1 with
 | .str k=>if mx x p q.2=true then (if hJ d.1 k=true then f p d q.2 else g p d q.2) else none
 |_=>none
theorem LD {nx:Str}{q1 a:Pos}{b:Expr}{u us:.bB}{fk:FE}{f g:FZ}(hu:.bf)(N:PE X .f4 (vN x))(hk:SE X b fk)(ha:JB X x u f)(hb:JB X x us g)
  (hm:behindInMarks .In .f4=false:=by first | exact l _ .f .f | rfl):SZ X x (.If (.Compare b [.In] [.Name nx q1] a) u us pos) (Ez x fk f g):=fun Y0 Y9=>PS.weak (IL (NV (NA .e hk.any N) hm) .cb .dE) fun D σ H G=>by
 obtain⟨F,τ,p,d,r,q,e1,k⟩:=G
 obtain⟨⟨t,τ1⟩,e2,e1⟩:=bind_some e1
 cases t with
 |str y =>
  dsimp only at e1
  split at e1
  ·next hp =>
   refine⟨Y0,lH Y9 H p,F,τ,_,τ1,q.lend,e2,fun F' H' v Z s' j=>?_⟩
   have E:=q.back Z s' (iZ hp)
   obtain⟨vs,h1,h2,W⟩:=E.hp
   cases j
   refine⟨_,E.get,p,_,rfl,xh.k (k:=.inr y) h1,_,rfl,?_⟩
   rw [xV h2]
   split at e1
   ·next h=>rw [if_pos h];exact⟨F',τ1,p,d,r,E,e1,fun F2 H2 n J s2=>k F2 H2 n J (s'.trans s2)⟩
   ·next h=>rw [if_neg h];exact⟨F',τ1,p,d,r,E,e1,fun F2 H2 n J s2=>k F2 H2 n J (s'.trans s2)⟩
  ·cases e1
 |_=>cases e1
noncomputable def kj (x:Nat)(fg:FG)(fb:FZ):List T->FZ
 |[],_,d,τ=>some (d,τ)
 |t::ts,p,d,τ=>(fg t τ).bind fun τ1=>if mx x p τ1=true then (fb p d τ1).bind fun r=>kj x fg fb ts p r.1 r.2 else none
noncomputable def CU (x:Nat)(fi:FA)(fg:FG)(fb:FZ):FZ:=fun p d τ=>(fi τ).bind fun q=>if mx x p q.2=true then kj x fg fb q.1 p d q.2 else none
theorem CK {tg iter:Expr}{body:.bB}{fi:FA}{fg:FG}{fb:FZ}(hp:.ee)(U:.bt)(hi:.db)(M:SG X tg fg)(hb:JB X x body fb)
  (hs:∀x,foldedSetIterable iter X.env x=pure x:=by intro _;rfl):SZ X x (.For tg iter body [] pos) (CU x fi fg fb):=fun Y0 Y9=>PS.weak (IK hp U hi.any M.any .dE hs) fun D σ H G=>by
 obtain⟨F,τ,p,d,r,Y,e1,k⟩:=G
 obtain⟨⟨ts,τ1⟩,e2,e1⟩:=bind_some e1
 split at e1
 ·next hq =>
  refine⟨Y0,lH Y9 H p,F,τ,ts,τ1,Y.lend,e2,fun F' H' J Z s' W=>?_⟩
  refine⟨fun i m σ H=>m=ts.length-i/\i≤ts.length/\∃F1 τ1 b,uR X.K Y0 Y9 F1 H σ τ1 x p b/\aW F' F1/\kj x fg fb (ts.drop i) p b τ1=some r,⟨_,rfl,za4 _,F',τ1,d,(Y.back Z s' (iZ hq)),aW.refl _,e1⟩,?_⟩
  rintro i m l H1 ⟨rfl,hi,F1,τ2,b,D1,s1,e3⟩
  by_cases O:i<ts.length
  ·have hd:=zbn O
   have M:=zas O
   rw [hd] at e3
   obtain⟨u,e4,e3⟩:=bind_some e3
   split at e3
   ·next a =>
    obtain⟨B,e5,e3⟩:=bind_some e3
    refine .bg ⟨W.go i _ F1 H1 M s1 D1.E.g.fh,fun σ H=>∃F1 τ1 b,uR X.K Y0 Y9 F1 H σ τ1 x p b/\aW F' F1/\kj x fg fb _ p b τ1=some r,fun σ' H' n=>⟨_,.e,rfl,O,n⟩,fun y H2 z=>?_⟩
    obtain⟨F2,A,L⟩:=W.yld i _ F1 H1 y H2 M s1 D1.E.g.fh z
    have D2:=D1.grow A
    refine⟨Y0,lH Y9 H2 p,F2,τ2,ts[i],u,D2.lend,L,e4,fun F3 P j T w=>?_⟩
    have c:=s1.trans (A.sF.trans w)
    exact⟨F3,u,p,b,B,(D2.back T w (iZ a)),e5,fun o S g h C=>⟨o,B.2,B.1,h,c.trans C,e3⟩⟩
   ·cases e3
  ·have he:i=ts.length:=.e
   subst he
   rw [zbE] at e3
   cases e3
   exact .inl ⟨W.stop F1 H1 s1 D1.E.g.fh,k F1 H1 l D1 (s'.trans s1)⟩
 ·cases e1
noncomputable def Bp (x:Nat)(fk fe:FE):FZ:=fun p d τ=>(fe τ).bind fun q=>if mx x p q.2=true then (fk q.2).bind fun z=>match z.1 with
 | .str k=>if mx x p z.2=true/\d.1.length<sizeLine then some (d.put k q.1,z.2) else none
 |_=>none else none
theorem Jm {nx:Str}{q1 p1:Pos}{b v:Expr}{fk fe:FE}(hu:.bf)(N:PE X .f4 (vN x))(hk:SE X b fk)(he:SE X v fe)
  (hs:swapsWith v (some (.Subscript .f4 b p1)) pos.line X.env=pure false:=by rfl):SZ X x (.Assign [.Subscript .f4 b p1] v pos) (Bp x fk fe):=fun Y0 Y9=>PS.weak (DW .e N hk.any he.any hs) fun D σ H G=>by
 obtain⟨F,τ,p,d,r,Y,e1,k⟩:=G
 obtain⟨⟨t,τ1⟩,e2,e1⟩:=bind_some e1
 split at e1
 ·next hp =>
  obtain⟨⟨z,τ2⟩,e3,e1⟩:=bind_some e1
  cases z with
  |str y =>
   dsimp only at e1
   split at e1
   ·next S =>
    cases e1
    refine⟨Y0,lH Y9 H p,F,τ,t,τ1,Y.lend,e2,fun F1 H1 w V s1 r1=>?_⟩
    have E:=Y.back V s1 (iZ hp)
    refine⟨_,E.get,Y0,lH Y9 H1 p,F1,τ1,.str y,τ2,E.lend,e3,fun F2 H2 u R s2 r2=>?_⟩
    cases r2
    obtain⟨kvs,h1,h2,W⟩:=(E.back R s2 (iZ S.1)).put (Rep.mono s2 r1)
    exact⟨p,_,rfl,EE.k (k:=.inr y) h1 (by rw [h2];exact S.2),k F2 _ σ W .a8⟩
   ·cases e1
  |_=>cases e1
 ·cases e1
abbrev Gk:=Addr->DS->aE->Option R
noncomputable def UB (K:.l)(Y0 Y9:Hp)(x:Nat)(g:Gk):TS:=fun D σ H=>∃F τ p d r,uR K Y0 Y9 F H σ τ x p d/\g p d τ=some r/\pN K Y0 Y9 F D r
def OW (X:Cx)(x:Nat)(u:.bB)(g:Gk):Prop:=∀Y0 Y9,mY X u (UB X.K Y0 Y9 x g)
def pK (f:FZ)(g:Gk):Gk:=fun p d τ=>(f p d τ).bind fun r=>g p r.1 r.2
theorem ux {st:Stmt}{rest:.bB}{f:FZ}{g:Gk}(h1:SZ X x st f)(h2:OW X x rest g):OW X x (st::rest) (pK f g):=fun Y0 Y9=>mY.weak (jb (h1 Y0 Y9) (h2 Y0 Y9)) fun D σ H G=>by
 obtain⟨F,τ,p,d,r,q,e1,k⟩:=G
 obtain⟨r1,e2,e1⟩:=bind_some e1
 exact⟨F,τ,p,d,r1,q,e2,fun F1 H1 l E s1=>⟨F1,r1.2,p,r1.1,r,E,e1,k.mono s1⟩⟩
def zEnd (x:Nat)(f:FS):Gk:=fun p d τ=>f (τ.set x .fd)
theorem Em {rest:.bB}{f:FS}(h:Bs X rest f):OW X x rest (zEnd x f):=fun Y0 Y9 pins s σ H D I G=>by
 obtain⟨F,τ,p,d,r,q,e1,k⟩:=G
 obtain⟨vs,hp,hl,hr⟩:=q.hp
 obtain⟨o,K⟩:=I.freeze hp
 have sF:aW F (.p F):=fun b u e=>by rw [ay (fun z=>by subst z;rw [q.fp] at e;cases e)];exact e
 refine h Y0 Y9 pins s σ _ D K ⟨upd F p _,τ.set x _,r,⟨⟨q.E.g.sF.trans sF,fun b u e=>?_,fun b u e=>?_,fun b u e=>?_⟩,by rw [List.length_set];exact q.E.len,fun i t e=>?_,fun i j ts us r ne e2 e3=>?_⟩,e1,k.mono sF⟩
 ·rw [ay (fun z=>by subst z;rw [q.h0] at e;cases e)];exact q.E.g.sH _ _ e
 ·by_cases z:b=p
  ·subst z;rw [aM] at e ⊢;exact e
  ·rw [ay z] at e ⊢;exact q.E.g.fh _ _ e
 ·by_cases z:b=p
  ·subst z;exact .inr q.h0
  ·rw [ay z] at e;exact q.E.g.nw _ _ e
 ·by_cases hi:x=i
  ·subst hi
   have O:=(zav.mp q.hx).1
   rw [zam O] at e
   cases e
   exact⟨_,q.get,p,o,vs,rfl,aM,hl,aU.mono sF hr⟩
  ·rw [zan hi] at e
   obtain⟨v,h1,h2⟩:=q.E.sl i t e
   refine⟨v,h1,?_⟩
   cases t with
   |sh t=>exact Rep.mono sF h2
   |own ts =>
    obtain⟨a,ws,rfl,k1,k2,k3,L⟩:=h2
    have ne:a≠p:=fun z=>by subst z;rw [hp] at k1;cases k1
    exact⟨a,ws,rfl,by rw [ay ne];exact k1,by rw [ay ne];exact k2,k3,aU.mono sF L⟩
 ·have ow:∀{i:Nat} {ts:List T},(τ.set x .fd)[i]? = some (.s ts)->τ[i]? = some (.s ts):=fun {i ts} e=>by grind
  exact q.E.dj i j ts us r ne (ow e2) (ow e3)
open Classical in
noncomputable def wj (x:Nat)(g:Gk):FS:=fun τ=>if h:x<τ.length/\∃r,∀p:Addr,g p .gZ (τ.set x .eu)=some r then some h.2.choose else none
theorem G2 {x:Nat}{g:Gk}{τ:aE}{r:R}(hx:x<τ.length)(h:∀p:Addr,g p .gZ (τ.set x .eu)=some r):wj x g τ=some r:=by
 have ex:x<τ.length/\∃r,∀p:Addr,g p .gZ (τ.set x .eu)=some r:=⟨hx,r,h⟩
 unfold wj
 rw [dif_pos ex]
 have:=(h 0).symm.trans (ex.2.choose_spec 0)
 exact this.symm
theorem Jh {u:.bB}{nx:Str}{p1 p2:Pos}{g:Gk}(J:.fC)(hi:X.N[x]? = some nx)(hx:Loc X.env.scope nx)(h:OW X x u g)(hs:swapsWith (.Dict [] [] p2) (.Z nx p1) pos.line X.env=pure false:=by rfl)
  (hf:X.fn nx=true\/X.env.scope.names.lookup nx=some .local:=by first | exact .inl rfl | exact .inr rfl | assumption):Bs X (.Assign [.Name nx p1] (.Dict [] [] p2) pos::u) (wj x g):=fun Y0 Y9=>mY.weak (jb (Cz J hi hx IC hs hf) .c8) fun D σ H G=>by
 obtain⟨F,τ,r,E,e1,k⟩:=G
 unfold wj at e1
 split at e1
 ·next S =>
  cases e1
  intro p n
  have sH:aW H (.aj p (.dK [])):=dC n
  have fp:=E.g.fh.free n
  refine⟨F,τ.set x _,p,.gZ,_,⟨(E.hp sH).set (t:=.ptr p) rfl,zam S.1,⟨[],aM,rfl,rfl⟩,zbD,fp,E.g.sH.free n⟩,S.2.choose_spec p,k⟩
 ·cases e1
end
theorem BH {prog:.ah}{w:World}{A:Around}{R:.dR}{s:Shared}{kx V target iter:Expr}{l:.av}{scope:Scope}{pos:Pos}{it:Value}{D:Addr}{env:Env}(I:Nat->Shared->Prop)
  (turn:∀n s,I n s->wpAny .Q A (pyNext it) (fun r g=>match r with
   |none=>R (.ok .next) g
   | some v=>wpAny .Q A (letOwnedTupleGo target it v) (fun _ d=>wpAny .Q A (assign target env v) (fun _ c=>wpAny .Q A (zj l env) (fun ok a =>
     if ok=true then wpAny .Q A (eval kx env) (fun x b=>wpAny .Q A (eval V env) (fun y i=>wpAny .Q A (dictSet D x y) (fun _ u=>∃m,m<n/\I m u) .aE i) .aE b) .aE a
     else ∃m,m<n/\I m a) .aE c) .aE d) .aE g) .aE s)
  (n:Nat) (h:I n s):codeAny .Q A (.compLoop (.DictComp kx V [⟨target,iter,l,0⟩] scope pos) 0 it (.c D) env) R s:=by
 have no:∀{α:Type} {m:Sem α} {Q:α->Shared->Prop} {E:.o} {s:Shared},wpAny .Q A m Q .aE s->wpAny _ A m Q E s:=fun h=>wpAny_mono h (fun _ _ q=>q) fun _ _ z=>z.elim
 refine codeAny_loop rfl I (fun n s hI=>?_) n h
 refine (wpAny_noted ?_:wpAny _ A _ _ _ s)
 refine .f (wpAny_standAt (.G (wpAny_mono (no (turn n s hI)) (fun r g f=>?_) fun _ _ z=>z)))
 cases r with
 |none=>exact wpAny_pure f
 |some v =>
  refine .f (wpAny_mono (no f) (fun _ d k=>wpAny_bind (wpAny_mono (no k) (fun _ c j=>wpAny_bind (wpAny_mono (no j) (fun ok a o=>?_) fun _ _ z=>z)) fun _ _ z=>z)) fun _ _ z=>z)
  cases ok with
  |false=>exact wpAny_pure ⟨rfl,o⟩
  |true =>
   refine .f (.G (wpAny_mono (no o) (fun x b t=>?_) fun _ _ z=>z))
   refine .f (wpAny_holding (wpAny_mono (no t) (fun y i p=>?_) fun _ _ z=>z))
   refine .f (wpAny_standAt ?_)
   exact wpAny_holding (wpAny_mono (no p) (fun _ u B=>.ao ⟨rfl,B⟩) fun _ _ z=>z)
noncomputable def fU (fg:FG)(ft:FT)(fk fv:FE):List T->aE->DS->Option DS
 |[],_,acc=>some acc
 | t::ts,τ,acc=>(fg t τ).bind fun τ1=>(ft τ1).bind fun p=>if p.1=true then (fk p.2).bind fun q=>(match q.1 with
   | .str k=>(fv q.2).bind fun z=>if bE z.2=true/\acc.1.length<sizeLine then fU fg ft fk fv ts z.2 (acc.put k z.1) else none
   | _=>none)
  else if bE p.2=true then fU fg ft fk fv ts p.2 acc else none
theorem Pj {P:.ah}{w:World}{H:Hp}{h:Heap}{scope:Scope}(hb:sysModules<h.objs.size):dE P w H (hA mh h scope) h.objs.size (.dK []):=by
 obtain⟨z,hd,vs,rel,q,es,ep,hq,r⟩:=zL (H:=H) h hb
 exact⟨z,hd,vs,rel,q,es,ep,pushCells_keeps _ _ _ _ (.H hq),r⟩
section
variable {X:Cx}
theorem ET {pins:.v}{σ:L2.St}{H:Hp}{s:Shared}{a:Addr}{kvs:.bW}{k:Key}{v:V}{u r:Value}{A:Around}{E:.o}{Q:.dI}(I:.u)(e:H a=some .ba)(l:kvs.length<sizeLine)(Z:RelV (kV k) u)(f:RelV v r)
  (h:∀s',Inv X pins σ (.aj a (.dK (putK kvs k v))) s'->Q () s'):wpAny .t A (dictSet a u r) Q E s:=by
 obtain⟨z,hd,vs,rel,dd⟩:=GV I.hok e
 have hz:vs.length≤sizeLine:=by rw [<- rel.length];exact z
 have hl:.hs:=by have:=mz kvs k v;omega
 refine wpAny_dictSet_pairs (wB Z) dd (fun h' i hs=>h _ ?_) hz
 have he:∃q,h'.get? a=some q:=let ⟨q,_,_,hq,_⟩:=i;⟨q,hq⟩
 exact xG I .fF hs he (GU hl hd (rel.put k f) i)
structure Gr (X:Cx)(pins:.v)(σ:L2.St)(Y0 Y9 F:Hp)(τ:aE)(rs:DS)(D C:Addr)(s:Shared):Prop where
 ex:∃(H F3:Hp) (vs:List V),Inv X pins σ H s/\aJ X.K Y0 Y9 F3 H σ τ/\aW F F3/\F3 D=none/\H D=some (.dK (cK rs.1 vs))/\Y9 D=none/\vs.length=rs.1.length/\aU X.K F3 rs.2 vs/\H C=none
 ns:∃m,s.heap.Ns C m
 cl:C≠X.env.locals
 c0:X.Y8.heap.objs.size≤C
 cc:∀x c,X.env.cells.lookup x=some c->c≠C
 cp:∀p∈X.pn++pins,p.1≠C
theorem nX {kx vx tg iter:Expr}{l:.av}{scope:Scope}{pos:Pos}{N':.V}{no:Nat}{cap:.D}{fi:FA}{fg:FG}{ft:FT}{fk fv:FE}(hu:.bf)(hx:X.xe=fun _ _=>False)(U:.bt)(B:.f7)(q:.cf)
  (hcap:∀(k j:Nat),cap[k]? = some j->∃x,N'[no+k]? = some x/\X.N[j]? = some x/\(x,NameKind.free)∈scope.names) (hi:.db)
  (M:∀C cs Y8 Y9 fp pins,SG .y tg fg) (Y:∀C cs Y8 Y9 fp pins,EF .y l ft) (hk:∀C cs Y8 Y9 fp pins,SE .y kx fk) (he:∀C cs Y8 Y9 fp pins,SE .y vx fv)
  {Y0 Y9 F H:Hp} {pins:.v} {s:Shared} {σ:L2.St} {τ τ1:aE} {ts:List T} {rs:DS} (I:.u) (E:aJ X.K Y0 Y9 F H σ τ) (e2:fi τ=some (ts,τ1)) (ha:bE .bJ=true) (e3:fU fg ft fk fv ts .bJ .gZ=some rs)
  {post:Value->Addr->Result->Shared->Prop} (hpost:∀D C s',Gr X pins σ Y0 Y9 F (frzAll cap τ1) rs D C s'->post (.c D) C (.ok .next) s'):
  wpAny .t X.A (.Z iter) (fun x g=>wpAny .t X.A (pyIter x) (fun it Q=>wpAny .t X.A newDict (fun acc s₃ =>
   wpAny .t X.A (newFunctionEnv scope X.env.globals .aD [] X.env.qual none .none (some X.env)) (fun cenv s₄ =>
    codeAny .t X.A (.compStart (.D vx) 0 it acc { cenv with scope:=relabel scope X.env }) (post acc cenv.locals) s₄) X.xe s₃) X.xe Q) X.xe g) X.xe s:=by
 refine df (hi Y0 Y9 pins s σ H (fun J H1=>∃F1,aJ X.K Y0 Y9 F1 H1 σ τ1/\aW F F1/\Walks X.K F1 ts J) I ⟨F,τ,ts,τ1,E,e2,fun F1 H1 J V s1 W=>⟨F1,V,s1,W⟩⟩) fun v s1 h1=>df h1 fun itv s2 h2=>?_
 obtain⟨it,fp,tn,J,H1,rfl,K,Tn,st2,f2,F1,V,sF1,W⟩:=h2
 obtain⟨F2,m,sF2⟩:=V.frzAll cap
 have W2:Walks X.K F2 ts J:=⟨fun i t F3 P e a b=>W.go i t F3 P e (sF2.trans a) b,fun i t F3 P x H4 e a b y=>W.yld i t F3 P x H4 e (sF2.trans a) b y,fun F3 P a b=>W.stop F3 P (sF2.trans a) b⟩
 refine wpAny_newObj_type ?_
 have hz:(s2.heap.push mh).objs.size=s2.heap.objs.size+1:=.hM
 have hz2:((s2.heap.push mh).push mh).objs.size=s2.heap.objs.size+2:=by rw [Heap.size_push,hz]
 simp only [newFunctionEnv,Option.isSome_some,if_true]
 refine .f (wpAny_alloc ?_)
 refine wpAny_bind (wpAny_layCells _ (fun name kind cells=>by cases hkc:kind == NameKind.cell<;>simp [hkc]) _ _ _ _ ?_)
 refine .f (.aU .b0)
 have loop:codeAny .t X.A (.compLoop (.D vx) 0 .g1 .eT (jD X scope .c3 .cJ))
   (post .eT .c3) { s2 with heap:=hA mh s2.heap scope }:=by
  have Ib:=sv (N':=N') mh (.dK []) (Pj K.big) (σ':=cq no cap σ) (tk:=s2.toks) K B f2 (fun b hb=>by obtain⟨o,e,_⟩:=Tn.obj 0 _ st2 b hb;exact⟨o,e⟩) (by simp [cq,q]) (fun i x v a1 a2=>by
   obtain⟨k,j,rfl,hk,S⟩:=pR a2
   obtain⟨x',b1,b2,b3⟩:=hcap k j hk
   rw [a1] at b1;cases b1
   exact .inl ⟨b3,j,b2,S⟩)
  generalize h:lX X scope N' _ _ s2 H1 fp pins=X' at Ib
  have hg':SG X' tg fg:=by rw [<- h];exact M _ _ _ _ _ _
  have ht':EF X' l ft:=by rw [<- h];exact Y _ _ _ _ _ _
  have hk':SE X' kx fk:=by rw [<- h];exact hk _ _ _ _ _ _
  have he':SE X' vx fv:=by rw [<- h];exact he _ _ _ _ _ _
  have xP:X'.prog=X.prog:=by rw [<- h];rfl
  have xw:X'.w=X.w:=by rw [<- h];rfl
  have xK:X'.K=X.K:=by rw [<- h];rfl
  have xA:X'.A=X.A:=by rw [<- h];rfl
  have xc:X'.calm=true:=by rw [<- h];exact U
  have xx:X'.xe=fun _ _=>False:=by rw [<- h];rfl
  have xe':X'.env=jD X scope .c3 .cJ:=by rw [<- h];rfl
  have xex:X'.ex=fp:=by rw [<- h];rfl
  have xfs:X'.fs=wt X.stack:=by rw [<- h];rfl
  have xpn:X'.pn=X.pn++pins:=by rw [<- h];rfl
  have xs0:X'.Y8=s2:=by rw [<- h];rfl
  have xH0:X'.Y9=H1:=by rw [<- h];rfl
  have xl:X'.env.locals=s2.heap.objs.size+1:=by rw [<- h];rfl
  rw [<- xe',<- xP,<- xw,<- xA]
  have hD1:=K.fresh
  have fpk:∀{Hc:Hp} {σc:L2.St} {pc:List _} {sc:Shared},Inv X' pc σc Hc sc->(∀b∈fp,Hc b=none)->∀b∈fp,si X' [] Hc b:=fun {Hc σc pc sc} Ic hn b hb=>by
   have q1:=Ic.ok.exf b .ec
   refine⟨hn b hb,q1.1,(Ic.ok.exfs b .ec),.inl .ec,q1.2,fun p hp=>?_⟩
   rw [xpn,zaA] at hp
   exact (f2 b hb).2.2.2.2.2 p hp
  refine BH (fun n s3=>∃i σ3 P F3 τ3 us vs,Inv X' [] σ3 P s3/\tn i s3.heap/\(∀b∈fp,P b=none)/\aJ X.K F3 P F3 P σ3 τ3/\bE τ3=true/\F3 s2.heap.objs.size=none/\P s2.heap.objs.size=some (.dK (cK us.1 vs))/\(vs.length=us.1.length/\us.1.Nodup/\aU X.K F3 us.2 vs)/\aW F2 F3/\aW H1 P /\
   (∀a o,F3 a=some o->F2 a=some o\/H1 a=none)/\i≤ts.length/\n=ts.length-i/\fU fg ft fk fv (ts.drop i) τ3 us=some rs) ?_ ts.length ?_
  ·rintro n s3 ⟨i,σ3,P,F3,τ3,us,vs,I3,st3,fr3,E3,ha3,fD,hD,⟨lv,nd,f⟩,sF,sH,nw,hi',rfl,ec⟩
   by_cases O:i<ts.length
   ·have hgi:=zas O
    rw [zbn O] at ec
    obtain⟨τ4,e4,ec⟩:=bind_some ec
    obtain⟨⟨b,τ5⟩,e5,ec⟩:=bind_some ec
    have go:=W2.go i _ F3 P hgi sF E3.g.fh
    refine df ((xP ▸ xw ▸ xK ▸ Tn:Turn X'.prog X'.w X'.K tg J fp it tn).item X' rfl rfl rfl xc i [] s3 σ3 P .aE I3 (fpk I3 fr3) st3 go) fun r s4 ⟨u,hr,N⟩=>?_
    subst hr
    refine df N fun _ s5 ⟨x,H5,I5,r5,y5,st5,fr5⟩=>?_
    obtain⟨F5,A,L⟩:=W2.yld i _ F3 P x H5 hgi sF E3.g.fh y5
    have a1:=hg' F3 P _ s5 σ3 H5 x u (fun σ6 H6=>∃F6,aJ X.K F3 P F6 H6 σ6 τ4/\aW F5 F6) (I5.pinned (fpk I5 fr5) (Tn.obj _ _ st5)) r5 (by rw [xK];exact⟨F5,τ3,ts[i],τ4,E3.grow A,L,e4,fun F6 H6 σ6 E6 s6=>⟨F6,E6,s6⟩⟩)
    rw [xx] at a1
    refine df a1 fun _ s6 ⟨σ6,H6,I6,F6,E6,sF6⟩=>?_
    have a2:=ht' F3 P _ s6 σ6 H6 (fun b' H7=>b'=b/\∃F7,aJ X.K F3 P F7 H7 σ6 τ5/\aW F6 F7) I6 (by rw [xK];exact⟨F6,τ4,b,τ5,E6,e5,fun F7 H7 E7 s7=>⟨rfl,F7,E7,s7⟩⟩)
    rw [xx] at a2
    refine df a2 fun ok s7 ⟨H7,I7,hok,F7,E7,sF7⟩=>?_
    subst hok
    have tail:∀{σc:L2.St} {Hc:Hp} {sc:Shared},Inv X' ([]++qi fp s5.heap) σc Hc sc->tn (i+1) sc.heap/\∀b∈fp,Hc b=none:=fun {σc Hc sc} Ic=>by
     refine⟨Tn.keep _ _ _ st5 fun b hb o e=>(Ic.pin (b,o) .du).1,fun b hb=>?_⟩
     obtain⟨o,e,d⟩:=Tn.obj _ _ st5 b hb
     exact (Ic.pin (b,o) .du).2.1
    have keepD:∀{Fc Hc:Hp} {σc:L2.St} {τc:aE},aJ X.K F3 P Fc Hc σc τc->Fc s2.heap.objs.size=none:=fun {Fc Hc σc τc} Ec=>by
     cases eF:Fc s2.heap.objs.size with
     |none=>rfl
     |some o =>
      rcases Ec.g.nw _ o eF with z | z
      ·rw [fD] at z;cases z
      ·rw [hD] at z;cases z
    have newF:∀{Fc Hc:Hp} {σc:L2.St} {τc:aE},aJ X.K F3 P Fc Hc σc τc->∀a o,Fc a=some o->F2 a=some o\/H1 a=none:=fun {Fc Hc σc τc} Ec a o eF=>by
     rcases Ec.g.nw a o eF with z | z
     ·exact nw a o z
     ·exact .bg (sH.free z)
    cases b':ok with
    |false =>
     subst b'
     dsimp only at ec
     rw [if_neg .f] at ec
     split at ec
     ·next ha =>
      obtain⟨t1,t2⟩:=tail I7
      exact⟨ts.length-(i+1),.e,i+1,σ6,H7,F7,τ5,us,vs,I7.unpinned,t1,t2,E7.rebase ha E7.g.fh,ha,keepD E7,E7.g.sH _ _ hD,⟨lv,nd,aU.mono E7.g.sF f⟩,sF.trans E7.g.sF,sH.trans E7.g.sH,newF E7,O,rfl,ec⟩
     ·cases ec
    |true =>
     subst b'
     obtain⟨⟨k0,τ6⟩,e6,ec⟩:=bind_some ec
     cases k0 with
     |str k0 =>
      obtain⟨⟨y0,τ7⟩,e7,ec⟩:=bind_some ec
      split at ec
      ·next ha =>
       have a3:=hk' F3 P _ s7 σ6 H7 (fun y H8=>y=.str k0/\∃F8,aJ X.K F3 P F8 H8 σ6 τ6/\aW F7 F8) I7 (by rw [xK];exact⟨F7,τ5,.str k0,τ6,E7,e6,fun F8 H8 y E8 s8 r8=>⟨r8,F8,E8,s8⟩⟩)
       rw [xx] at a3
       refine df a3 fun G s8 ⟨y,H8,I8,Z,R,F8,E8,sF8⟩=>?_
       subst R
       have a4:=he' F3 P _ s8 σ6 H8 (fun y H9=>∃F9,aJ X.K F3 P F9 H9 σ6 τ7/\aW F8 F9/\Rep X.K F9 y0 y) I8 (by rw [xK];exact⟨F8,τ6,y0,τ7,E8,e7,fun F9 H9 y E9 s9 r9=>⟨F9,E9,s9,r9⟩⟩)
       rw [xx] at a4
       refine df a4 fun vv s9 ⟨y,H9,I9,ry9,F9,E9,sF9,rp⟩=>?_
       have dD:=E9.g.sH _ _ hD
       have hlk:(cK us.1 vs).length<sizeLine:=by rw [p8 lv];exact ha.2
       refine ET I9 dD hlk (k:=.inr k0) Z ry9 fun s10 I10=>?_
       obtain⟨t1,t2⟩:=tail I10
       have kD:=keepD E9
       have sm:aW F9 (upd H9 s2.heap.objs.size (.dK (putK (cK us.1 vs) (.inr k0) y))):=fun c o z=>by rw [ay (fun w=>by subst w;rw [kD] at z;cases z)];exact E9.g.fh _ _ z
       have sm1:aW H1 (upd H9 s2.heap.objs.size (.dK (putK (cK us.1 vs) (.inr k0) y))):=fun c o z=>by rw [ay (fun w=>by subst w;rw [hD1] at z;cases z)];exact E9.g.sH _ _ (sH _ _ z)
       exact⟨ts.length-(i+1),.e,i+1,σ6,_,F9,τ7,us.put k0 y0,lU us.1 vs k0 y,I10.unpinned,t1,t2,E9.rebase ha.1 sm,ha.1,kD,by rw [aM,DX lv nd];rfl,⟨ub lv,kN nd,uc rp lv (aU.mono E9.g.sF f)⟩,sF.trans E9.g.sF,sm1,newF E9,O,rfl,ec⟩
      ·cases ec
     |_=>cases ec
   ·have hie:i=ts.length:=.e
    subst hie
    rw [zbE] at ec
    cases ec
    refine df ((xP ▸ xw ▸ xK ▸ Tn:Turn X'.prog X'.w X'.K tg J fp it tn).done X' rfl rfl rfl xc ts.length [] s3 σ3 P .aE I3 (fpk I3 fr3) st3 (W2.stop F3 P sF E3.g.fh)) fun r s4 ⟨hr,I4⟩=>?_
    subst hr
    obtain⟨m4,hm4,_⟩:=I4.loc
    rw [xl] at hm4
    have un:=I4.base
    rw [xfs,xex,xH0,xs0] at un
    have ox:=I4.os
    rw [xs0] at ox
    have hok4:=I4.hok
    rw [xP,xw] at hok4
    have IX:=K.call' ox un hok4 I4.bare fun b hb=>⟨(f2 b hb).2.2.2.1,(f2 b hb).2.1,(f2 b hb).2.2.2.2.1,(f2 b hb).2.2.2.2.2⟩
    have hC:P .c3=none:=by have:=I4.free;rw [xl] at this;exact this
    have lC:=K.lt
    have A:bj F2 H1 F3 P:=⟨sF,sH,E3.g.fh,nw⟩
    exact hpost _ _ _ ⟨⟨P,F3,vs,IX,m.grow A,(sF1.trans sF2).trans sF,fD,hD,m.g.sH.free hD1,lv,f,hC⟩,⟨m4,hm4⟩,za6 (zaQ lC),zaG K.sz (zbu _),
     fun x c hxc=>by obtain⟨v,z⟩:=K.cell x c hxc;exact zat (zaQ z.lt),fun p hp=>zat (zaQ (Heap.lt_size (K.pin p hp).1))⟩
  ·refine⟨0,cq no cap σ,upd H1 s2.heap.objs.size (.dK []),F2,cq no cap _,.gZ,[],Ib,Tn.keep _ _ _ st2 fun b hb o e=>js e,fun b hb=>?_,m.block ha (m.g.fh.trans (dC hD1)),ha,m.g.fh.free hD1,aM,⟨rfl,zbD,rfl⟩,aW.refl _,dC hD1,fun a o z=>.inl z,za4 _,rfl,e3⟩
   obtain⟨o,e,_⟩:=Tn.obj 0 _ st2 b hb
   rw [ay (zat .aF)]
   exact (f2 b hb).1
 have fin:∀{C:Addr} {cs:List _},C=s2.heap.objs.size+1->cs=cellsFrom (s2.heap.objs.size+2) scope.names .aD ->
   codeAny _ X.A (.compStart _ 0 _ _ _) (post _ C) { s2 with heap:=hA mh s2.heap scope }:=fun {C cs} h1 h2=>by
  subst h1 h2
  exact codeAny_compStart_dict loop (Tn.self _ 0 _ _ _ (Tn.keep _ _ _ st2 fun b hb o e=>js e) loop)
 exact fin hz (by rw [<- hz2])
theorem aJ.frzD {K:.l}{Y0 Y9 F H:Hp}{σ:L2.St}{τ:aE}{p:Addr}{kvs:.bW}{o:Obj}(E:.aC)(hp:H p=some .ba)(fp:F p=none)(h0:Y9 p=none):
  aJ K Y0 Y9 (upd F p .dA) (.aj p .dA) σ τ/\aW F (upd F p .dA):=by
 have sF:aW F (upd F p .dA):=fun b u e=>by rw [ay (fun z=>by subst z;rw [fp] at e;cases e)];exact e
 refine⟨⟨⟨E.g.sF.trans sF,fun b u e=>?_,fun b u e=>?_,fun b u e=>?_⟩,E.len,fun i t e=>?_,E.dj⟩,sF⟩
 ·rw [ay (fun z=>by subst z;rw [h0] at e;cases e)];exact E.g.sH _ _ e
 ·by_cases z:b=p
  ·subst z;rw [aM] at e ⊢;exact e
  ·rw [ay z] at e ⊢;exact E.g.fh _ _ e
 ·by_cases z:b=p
  ·subst z;exact .inr h0
  ·rw [ay z] at e;exact E.g.nw _ _ e
 ·obtain⟨v,h1,h2⟩:=E.sl i t e
  refine⟨v,h1,?_⟩
  cases t with
  |sh t=>exact Rep.mono sF h2
  |own ts =>
   obtain⟨a,ws,rfl,k1,k2,k3,L⟩:=h2
   have ne:a≠p:=fun z=>by subst z;rw [hp] at k1;cases k1
   exact⟨a,ws,rfl,by rw [ay ne];exact k1,by rw [ay ne];exact k2,k3,aU.mono sF L⟩
noncomputable def jE (no:Nat)(cap:.D)(fi:FA)(fg:FG)(ft:FT)(fk fv:FE):FE:=fun τ=>(fi τ).bind fun p =>
 if bE .bK=true then (fU fg ft fk fv p.1 .bK .gZ).bind fun d=>some (.dct d.1 d.2,frzAll cap p.2) else none
theorem IY {kx V tg iter:Expr}{l:.av}{scope:Scope}{pos:Pos}{N':.V}{no:Nat}{cap:.D}{fi:FA}{fg:FG}{ft:FT}{fk fv:FE}(hu:.bf)(hx:X.xe=fun _ _=>False)(U:.bt)(B:.f7)(J:.cf)
  (d:∀(k j:Nat),cap[k]? = some j->∃x,N'[no+k]? = some x/\X.N[j]? = some x/\(x,NameKind.free)∈scope.names) (hi:.db)
  (M:∀C cs Y8 Y9 fp pins,SG .y tg fg) (Y:∀C cs Y8 Y9 fp pins,EF .y l ft) (hk:∀C cs Y8 Y9 fp pins,SE .y kx fk) (he:∀C cs Y8 Y9 fp pins,SE .y V fv)
  (hs:∀x,foldedSetIterable iter X.env x=pure x:=by intro _;rfl):SE X (.D V) (jE no cap fi fg ft fk fv):=by
 intro Y0 Y9 pins s σ H Q I ⟨F,τ,t,τ',E,e1,q⟩
 obtain⟨⟨ts,τ1⟩,e2,e1⟩:=bind_some e1
 split at e1
 ·next ha =>
  obtain⟨rs,e3,e1⟩:=bind_some e1
  cases e1
  have G:=.bq
  refine wpAny_comprehension_free rfl hs (iW G) B.kind B.names .df
  obtain⟨P,F3,vs,S,T,sF,h,A,g,lv,f,L⟩:=Z.ex
  obtain⟨m,hm⟩:=Z.ns
  refine⟨m,hm,fun h' N=>?_⟩
  obtain⟨o,K⟩:=(S.turned (t':=s'.toks) (it:=C) (h':=h') .eh L Z.cl (.inr Z.c0) Z.cc Z.cp).freeze A
  obtain⟨p,s4⟩:=T.frzD A h g
  exact⟨.ref D,_,K,rfl,q _ _ (.c D) p (sF.trans s4) ⟨D,o,vs,rfl,aM,lv,aU.mono s4 f⟩⟩
 ·cases e1
end
section
variable {X:Cx}{e:Expr}{pos:Pos}
noncomputable def QE (ys:.V)(i j:Nat):Bool:=decide ((ys.getD i Str.empty).cps.toList<(ys.getD j Str.empty).cps.toList)
def HR (ys:.V):Str:=ys.getD (argBest (QE ys) (ys.length-1)) Str.empty
theorem pE {us:.S}{ys:.V}(h:StrsAre us ys):∀{i:Nat} {v:Value},us[i]? = some v->∃t,v=.str (ys.getD i Str.empty) t/\i<ys.length:=by
 induction h with
 |nil=>intro i v e;cases i<;>cases e
 |cons y t h A =>
  intro i v e
  cases i with
  |zero=>cases e;exact⟨_,rfl,Nat.zero_lt_succ _⟩
  |succ i =>
   obtain⟨t',e1,e2⟩:=A .fE
   exact⟨t',by rw [e1];rfl,Nat.succ_lt_succ e2⟩
theorem Bh {us:.S}{ys:.V}(h:StrsAre us ys):us.length=ys.length:=by
 induction h with
 |nil=>rfl
 |cons y t h A=>rw [zaj,zaj,A]
noncomputable def sN:List T->Option T
 |[.lst ts]=>(strsOf ts).bind fun ys=>if 0<ys.length then some (.str (HR ys)) else none
 |ts=>JU ts
theorem JP (U:.bt):gY X (.builtin "min") sN:=by
 intro pins s σ H xs us Q I L ⟨F,ts,t,sm,r,e1,q⟩
 unfold sN at e1
 split at e1
 ·obtain⟨ys,e2,e1⟩:=bind_some e1
  split at e1
  ·next hl =>
   cases e1
   obtain⟨v,w,rfl,h1,rfl⟩:=r
   obtain⟨l,vs,rfl,g1,g2⟩:=h1
   obtain⟨u,rfl,W⟩:=vals1 L
   cases W
   obtain⟨G,f,Y,hz⟩:=I.list (gE.of (sm _ _ g1))
   have sa:=pD e2 g2 f
   have a:l≠s.heap.objs.size:=by obtain⟨o,ho,_⟩:=Y.isList;exact zat (.aS ho)
   refine call_min_walk (wpAny_pyIter_list Y.isList ⟨_,_,_,_,_,_,QE ys,rfl,Walks.list (A:=X.A.in1) .cX s.heap.objs.size l a G.toArray,⟨.d6,Y.isList.push _⟩,fun b hb=>?_,by rw [zaE,Bh sa];exact hl,fun i j g k s' d Z hi S hq=>?_,fun v h' tk N hk=>?_⟩)
   ·have hsz:(s.heap.push { cls:=.type "list_iterator", data:=.fields #[.ref l,.int 0 0] }).objs.size=s.heap.objs.size+1:=Heap.size_push ..
    rw [hsz]
    rcases zao.mp hb with rfl | hb
    ·exact zbg _
    ·rw [zac.mp hb]
     obtain⟨o,ho,_⟩:=Y.isList
     exact zaQ (.aS ho)
   ·obtain⟨t1,e3,_⟩:=pE sa (i:=i) (v:=g) .dq
    obtain⟨t2,e4,_⟩:=pE sa (i:=j) (v:=k) (by simpa using S)
    subst e3 e4
    exact (P.lt_str hq:wpAny _ _ _ _ _ _)
   ·obtain⟨t1,e3,_⟩:=pE sa (i:=argBest (QE ys) (G.toArray.size-1)) (v:=v) (by simpa using N)
    subst e3
    rw [zaE,Bh sa]
    have O:=I.kept (t':=tk) fun b o e=>hk b o (fun m=>by rw [zac.mp m] at e;exact zaP _ .aF) (.H e)
    exact⟨.str (HR ys),H,O,⟨t1,rfl⟩,q F H _ .ai rfl⟩
  ·cases e1
 ·exact MI U pins s σ H xs us Q I L ⟨F,ts,t,sm,r,e1,q⟩
theorem IZ {x y:Str}{t:Tok}{pos:Pos}(M:Gl X x)(hm:X.mg x=some (.str y t))(hd:.M=false:=by decide):SE X .cI (fC (.str y)):=gz (ph (v:=.str y) M hm .al hd) fun _=>rfl
structure Bv (K:.l)(A B C:Addr)(b:Bool):Prop where
 one:∃q,jX K A C q
 kit:PySem.W.kitAny K (.c C) [.ref A,.ref B]=some b
noncomputable def nY (A B:Addr)(tbl:List .dz):List T->Option T
 |[.obj C _ _,.tup [.ptr c,.ptr P]]=>if c=A/\P=B then (findB C tbl).bind fun b=>some (.bl b) else none
 |_=>none
theorem GN {A B:Addr}{tbl:List .dz}(Y:∀a∈tbl,Bv X.K A B a.1 a.2):gY X .g2 (nY A B tbl):=by
 intro pins s σ H xs us Q I L ⟨F,ts,t,sm,r,e1,q⟩
 unfold nY at e1
 split at e1
 ·next C _ _ c P =>
  split at e1
  ·next d =>
   obtain⟨hA,hB⟩:=d
   subst hA
   subst hB
   obtain⟨b,e3,e1⟩:=bind_some e1
   cases e1
   obtain⟨v,w,rfl,h1,v2,r2,rfl,h2,rfl⟩:=r
   obtain⟨a,dx,vs,rfl,g1,_⟩:=h1
   obtain⟨tp,zs,rfl,g2,g3⟩:=h2
   cases wM (As:=[c,P]) g3
   obtain⟨M,g,rfl,m,D⟩:=Vals.two L
   cases (D)
   cases (m)
   obtain⟨⟨_,ok⟩,kit⟩:=Y _ (m7 e3)
   obtain⟨G,N,⟨o,h1,h2,n,W⟩,_⟩:=I.tuple (cw sm g2)
   obtain⟨S,K,rfl,r1,r2⟩:=Vals.two N
   cases (r1)
   cases (r2)
   obtain⟨oc,f,h,sl⟩:=o
   cases h2
   cases W
   obtain⟨mA,O,_⟩:=oV I.hok (sm _ _ g1)
   obtain⟨od,J,_⟩:=O.look
   exact PySem.W.kia_tup (PySem.W.kitx_own (ok.cl.get _) ok.cl.hd ok.ha ok.hn ok.htk ok.hm) I.kIn J h1 kit .bo fun tk=>⟨.bl b,H,I.tok tk,rfl,q F H _ .ai rfl⟩
  ·cases e1
 ·cases e1
end
end TM
namespace L2
open PySem PySem.Spec PyProof.Rows
end L2
namespace TM
open PySem PySem.Spec PyProof.Rows L2
section
variable {X:Cx}{e:Expr}{pos:Pos}
noncomputable def dG:T->T->Option T
 | .str a,.tup ts=>(strsOf ts).bind fun ys=>if (ys.map (·.length)).sum+ys.length*a.length≤16777216 then some (.str (Txt.join a ys)) else none
 |a,b=>zW a b
theorem mD:LR X "str.join" dG:=by
 intro pins s σ H x vs v us Q I L f ⟨y,c,F,a,b,t,sm,m,D,e1,q⟩
 subst c
 unfold dG at e1
 split at e1
 ·obtain⟨M,rfl,r1⟩:=Vals.one f
  obtain⟨ys,e2,e1⟩:=bind_some e1
  split at e1
  ·next hl =>
   cases e1;cases m
   obtain⟨p,xs,rfl,h1,h2⟩:=D
   obtain⟨t1,rfl⟩:=L
   cases r1
   obtain⟨G,d,p2,hz⟩:=I.tuple (cw sm h1)
   exact join_tuple p2 (by simpa using pD e2 h2 d) hl fun t' k=>⟨.str _,H,I.tok _,.al,q F H _ .ai rfl⟩
  ·cases e1
 ·exact Kz pins s σ H x [y] v us Q I L f ⟨y,rfl,F,a,b,t,sm,m,D,e1,q⟩
theorem mm:∀a b t,dG a b=some t->∃x,a=.str x:=fun a b t h=>by
 unfold dG at h
 split at h
 ·exact⟨_,rfl⟩
 ·exact Ke a b t h
end
section
variable {X:Cx}
theorem Be (i:Nat){y:Str}{n h:Pos}{kx V tg iter:Expr}{l:.av}{scope:Scope}{pos:Pos}{N':.V}{no:Nat}{cap:.D}{fi:FA}{fg:FG}{ft:FT}{fk fv:FE}(hNd:.fC)(hiy:X.N[i]? = some y)(R:.bR)(hu:.bf)
  (hx:X.xe=fun _ _=>False) (U:.bt) (B:.f7) (J:.cf)
  (d:∀(k j:Nat),cap[k]? = some j->∃x,N'[no+k]? = some x/\X.N[j]? = some x/\(x,NameKind.free)∈scope.names) (hi:.db)
  (M:∀C cs Y8 Y9 fp pins,SG .y tg fg) (Y:∀C cs Y8 Y9 fp pins,EF .y l ft) (hk:∀C cs Y8 Y9 fp pins,SE .y kx fk) (he:∀C cs Y8 Y9 fp pins,SE .y V fv)
  (W:swapsWith (.D V) (.Z y n) h.line X.env=pure true:=by rfl) (hs:∀x,foldedSetIterable iter X.env x=pure x:=by intro _;rfl):
  SS X (.Assign [.Name y n] (.D V) h) (bF i (jE no cap fi fg ft fk fv)):=by
 intro Y0 Y9 pins s σ H Dn I ⟨F,τ,r,E,e1,q⟩
 obtain⟨⟨t,τ'⟩,L,e1⟩:=bind_some e1
 cases e1
 obtain⟨⟨ts,τ1⟩,e2,e1⟩:=bind_some L
 split at e1
 ·next ha =>
  obtain⟨rs,e3,e1⟩:=bind_some e1
  cases e1
  have G:=.bq
  rw [exec_Assign_Name_used _ _ _ _ W]
  refine .ey
  refine .f (.Q .df)
  obtain⟨P,F3,vs,S,T,sF,fD,A,h0D,lv,f,g⟩:=Z.ex
  obtain⟨m,hm⟩:=Z.ns
  refine (.aW (ng S hNd hiy (.inl R) (v:=.ref D) rfl (fun p I'' w=>?_) (.inr R)))
  obtain⟨a,N,hab⟩:=w
  have aC:C≠a:=fun z=>by
   subst z
   rcases hab with z | z
   ·exact Z.cl z
   ·exact Z.cc _ _ z rfl
  refine⟨m,hm.sameBut N aC,fun h' sb'=>?_⟩
  obtain⟨o,K⟩:=(I''.turned (t':=p.toks) (it:=C) (h':=h') (fun b o hb e=>(sb'.2 b hb).trans e) g Z.cl (.inr Z.c0) Z.cc Z.cp).freeze A
  obtain⟨u,s4⟩:=T.frzD A fD h0D
  exact⟨_,_,K,q _ _ _ (u.set ⟨D,o,vs,rfl,aM,lv,aU.mono s4 f⟩) (sF.trans s4)⟩
 ·cases e1
end
section
variable {X:Cx}{e:Expr}
noncomputable def wX:List O->Option (List Str)
 |[]=>some []
 | .val (.str k)::os=>(wX os).bind fun l=>some (k::l)
 |_=>none
theorem wY:∀l:List Str,wX (l.map fun k=>O.val (.str k))=some l
 |[]=>rfl
 |k::l=>by
  show (wX _).bind _=_
  rw [wY l]
  rfl
theorem wZ {K:.l}{F F' H:Hp}:∀{os:List O} {l:.V} {vs:List V} {B:.af},wX os=some l->cQ K F H os vs B->aU K F' (l.map T.str) vs
 |[],l,vs,B,e,h=>by cases e;exact h.1
 |o::os,l,vs,B,e,h=>by
  unfold wX at e
  split at e
  ·next j=>cases j
  ·next k a j =>
   cases j
   obtain⟨f,e1,e2⟩:=bind_some e
   cases e2
   obtain⟨v,r,b,C,rfl,rfl,h1,h2⟩:=h
   exact⟨v,r,rfl,h1.2,wZ e1 h2⟩
  ·cases e
noncomputable def pX (i:Nat)(f:uQ):FE:=fun τ=>match τ[i]? with
 |some (.s us)=>(f .hF).bind fun q=>match q.1 with
  | .lst os=>(wX os).bind fun l=>some (.lst (l.map T.str),τ)
  |_=>none
 |_=>none
theorem A7 (i:Nat){f:uQ}(h:Gm X e f):SE X e (pX i f):=fun Y0 Y9=>PE.weak (fun pins s σ H Q I (S:∃Y0 Y9,_)=>by
  obtain⟨a,b,q⟩:=S
  exact h a b pins s σ H Q I q) fun σ H Q G=>by
 obtain⟨F,τ,t,τ',E,e1,q⟩:=G
 unfold pX at e1
 split at e1
 ·next us e3 =>
  obtain⟨⟨o,τ1⟩,e2,e1⟩:=bind_some e1
  dsimp only at e1
  split at e1
  ·obtain⟨l,e4,e1⟩:=bind_some e1
   cases e1
   obtain⟨v,h1,a,vs,rfl,h2,W,N,D⟩:=E.sl i _ e3
   refine⟨L2.upd F a _,H,L2.upd F a _,_,_,τ1,E.look h1 h2 W D,e2,fun F' H' v' A Z s' ro nd h0 c=>?_⟩
   have gl:=bj.lent W Z.g
   obtain⟨p,ws,B,rfl,rfl,k1,k2,k3⟩:=ro
   have hp:=h0 p zad
   have fp:mf F' [a] p=none:=by
    by_cases m:p∈[a]
    ·exact jo m
    ·rw [bW m];exact k2
   have hA:∀b∈[p],mf F' [a] b=none:=fun b hb=>by rw [zac.mp hb];exact fp
   have V:=(E.grow gl).frzO hA (fun b hb=>by rw [zac.mp hb];exact E.g.sH.free hp) (fun k g P e5 n m=>by
    rw [zac] at m
    subst m
    obtain⟨v2,g1,q2,d,rfl,g2,g3⟩:=E.sl k _ e5
    rw [n] at g1
    cases g1
    rw [hp] at g2
    cases g2)
   exact q _ H' _ V (gl.sF.trans (iR hA)) ⟨p,ws,rfl,by rw [xQ zad];exact k1,wZ e4 k3⟩
  ·cases e1
 ·cases e1
end
section
variable {X:Cx}{pins:.v}{σ:L2.St}{H:Hp}{s:Shared}{p:Addr}{o:Obj}{kvs:.bW}
theorem Inv.nofrz (I:.u)(e:H p=some .ba):∀o u,X.Y9 p≠some (.frz o u):=fun o u z=>by
 have:=I.base.frzs p o u z
 rw [e] at this;cases this
theorem Inv.thaw (I:.u)(e:H p=some .dA)(d:∀o u,X.Y9 p≠some (.frz o u)):Inv X pins σ (.aj p .ba) s:=by
 obtain⟨ho,q⟩:=I.hok p _ e
 have ne:∀b u,H b=some u->(∀o v,u≠.frz o v)->b≠p:=fun b u C n z=>by
  subst z;rw [e] at C;cases C;exact n _ _ rfl
 have nn:∀b,H b=none->upd H p .ba b=none:=fun b k=>by
  rw [ay (fun z=>by subst z;rw [e] at k;cases k)];exact k
 have a:∀b xs,H b=some .fv->upd H p .ba b=some _:=fun b xs C=>by rw [ay (ne b _ C fun _ _ z=>by cases z)];exact C
 have hok:lW X.prog X.w (.aj p .ba) s.heap:=fun b u C=>by
  by_cases hb:b=p
  ·subst hb
   rw [aM] at C;cases C
   exact q.stay (fun _ _ _ k=>k) (fun c k=>by rw [ay (ne c _ k fun _ _ z=>by cases z)];exact k) a
  ·rw [ay hb] at C
   exact (I.hok b u C).stay (fun _ _ _ k=>k) (fun c k=>by rw [ay (ne c _ k fun _ _ z=>by cases z)];exact k) a
 refine⟨I.ok,I.os,I.bare,⟨I.base.keep,I.base.slot,fun b o j n hx=>nn b (I.base.free b o j n hx),I.base.there,fun b xs j=>a b xs (I.base.tups b xs j),fun b o u j=>?_,fun b ps j=>?_⟩,I.loc,I.cell,nn _ I.free,fun x c j=>nn _ (I.freeC x c j),fun z hz=>?_,hok,I.len⟩
 ·have:=I.base.frzs b o u j
  rw [ay (fun z=>by subst z;exact d o u j)]
  exact this
 ·obtain⟨m,k⟩:=I.base.tbls b ps j
  refine⟨m,?_⟩
  rw [ay (ne b _ k fun _ _ z=>by cases z)]
  exact k
 ·obtain⟨a1,a2,a3,S,g⟩:=I.pin z hz
  exact⟨a1,nn _ a2,a3,S,g⟩
end
noncomputable def C7:T->Bool
 | .non=>true
 | .bl _=>true
 | .int _=>true
 | .str _=>true
 | .ty _=>true
 |_=>false
def RE:T->Bool
 | .tup ts=>ts.all C7
 |t=>C7 t
theorem zE {K:.l}{F F':Hp}{t:T}{v:V}(h:C7 t=true)(r:.fW):Rep K F' t v:=by
 cases t<;>first | exact r | cases h
theorem vR {K:.l}{F F':Hp}:∀{ts:List T} {vs:List V},ts.all C7=true->aU K F ts vs->aU K F' ts vs
 |[],vs,_,r=>r
 |t::ts,vs,h,r=>by
  obtain⟨v,w,rfl,h1,h2⟩:=r
  rw [List.all_cons,zbP] at h
  exact⟨v,w,rfl,zE h.1 h1,vR h.2 h2⟩
theorem KJ {K:.l}{F:Hp}{p:Addr}{o:Obj}{kvs:.bW}(hp:F p=some .dA){t:T}{v:V}(h:RE t=true)(r:.fW):Rep K (mf F [p]) t v:=by
 have ne:∀{a:Addr} {u:HO},F a=some u->(∀o kvs,u≠.frz o .ba)->a∉[p]:=fun {a u} e n m=>by
  rw [zac.mp m,hp] at e
  cases e
  exact n _ _ rfl
 cases t with
 |tup ts =>
  obtain⟨a,xs,rfl,h1,h2⟩:=r
  refine⟨a,xs,rfl,?_,vR h h2⟩
  rcases h1 with (z | ⟨o',z⟩) | z
  ·exact .inl (.inl (by rw [bW (ne z fun _ _ w=>by cases w)];exact z))
  ·exact .inl (.inr ⟨o',by rw [bW (ne z fun _ _ w=>by cases w)];exact z⟩)
  ·exact .inr z
 |_=>first | exact zE h r | cases h
section
variable {X:Cx}{Y0 Y9:Hp}{x:Nat}
noncomputable def QX (K:.l)(Y0 Y9:Hp)(x:Nat)(fe:FE):TE:=fun σ H Q=>∃F τ p d q,uR K Y0 Y9 F H σ τ x p d/\fe ((hide τ).set x .fd)=some q/\RE q.1=true /\
 ∀F' H' w,uR K Y0 Y9 F' H' σ τ x p d->aW F F'->Rep K F' q.1 w->Q w H'
theorem K9 {v:Expr}{fe:FE}(he:SE X v fe):PE X v (QX X.K Y0 Y9 x fe):=fun pins s σ H Q I ⟨F,τ,p,d,⟨t,τ'⟩,Y,e1,hn,k⟩=>by
 obtain⟨vs,hp,hl,hr⟩:=Y.hp
 obtain⟨o,K⟩:=I.freeze hp
 have C:=Inv.nofrz I hp
 have sF:aW F (.p F):=dC Y.fp
 have fh:aW (.p F) (.p H):=fun b u e=>by
  by_cases hb:b=p
  ·rw [hb,aM] at e ⊢;exact e
  ·rw [ay hb] at e ⊢;exact Y.E.g.fh b u e
 have all:∀{j:Nat} {s:Sl},((hide τ).set x .fd)[j]? = some (some s)->(∃t,s=.sh t)/\∃v,σ[j]? = some .di/\Bx X.K (.p H) _ (.p H) s v:=fun {j s} e=>by
  by_cases S:x=j
  ·subst S
   by_cases O:x<(hide τ).length
   ·rw [zam O] at e;cases e
    exact⟨.al,_,Y.get,p,o,vs,rfl,aM,hl,aU.mono sF hr⟩
   ·rw [List.getElem?_eq_none .j] at e;cases e
  ·rw [zan S] at e
   obtain⟨e1,t,rfl⟩:=mr e
   obtain⟨v,k1,k2⟩:=Y.E.sl j _ e1
   exact⟨⟨t,rfl⟩,v,k1,Rep.mono sF k2⟩
 have V:aJ X.K (.p F) (.p H) (.p F) (.p H) σ ((hide τ).set x .fd):=by
  refine⟨bj.refl fh,by simp [hW,Y.E.len],fun j s e=>(all e).2,fun j k ts ws p _ e1=>?_⟩
  obtain⟨t,z⟩:=(all e1).1
  cases z
 refine wpAny_mono (he _ _ pins s σ _ (fun w H'=>∃F',aJ X.K _ _ F' H' σ τ'/\aW (.p F) F'/\Rep X.K F' t w) K ⟨_,_,t,τ',V,e1,fun F' H' w Z s' B=>⟨F',Z,s',B⟩⟩) (fun u s1 z=>?_) (fun _ _ z=>z)
 obtain⟨w,H',l,E,F',Z,s',B⟩:=z
 have D:=s' _ _ aM
 have A:=Z.g.fh _ _ D
 have f:p∈[p]:=zac.mpr rfl
 have nd:∀{b:Addr},b≠p->b∉[p]:=fun h m=>h (zac.mp m)
 have c:aW F (mf F' [p]):=fun b u e=>by
  have hb:b≠p:=fun z=>by subst z;rw [Y.fp] at e;cases e
  rw [bW (nd hb)]
  exact s' _ _ (by rw [ay hb];exact e)
 have q:∀b u,b≠p->H b=some u->upd H' p (.dK (cK d.1 vs)) b=some u:=fun b u hb e=>by
  rw [ay hb]
  exact Z.g.sH _ _ (by rw [ay hb];exact e)
 refine⟨w,_,Inv.thaw l A C,E,k (mf F' [p]) _ w ⟨⟨⟨Y.E.g.sF.trans c,fun b u e=>?_,fun b u e=>?_,fun b u e=>?_⟩,Y.E.len,fun i sl e=>?_,Y.E.dj⟩,Y.hx,⟨vs,aM,hl,aU.mono c hr⟩,Y.nd,jo f,Y.h0⟩ c (KJ D hn B)⟩
 ·exact q b u (fun z=>by subst z;rw [Y.h0] at e;cases e) (Y.E.g.sH _ _ e)
 ·have hb:b≠p:=fun z=>by subst z;rw [jo f] at e;cases e
  rw [bW (nd hb)] at e
  rw [ay hb]
  exact Z.g.fh _ _ e
 ·have hb:b≠p:=fun z=>by subst z;rw [jo f] at e;cases e
  rw [bW (nd hb)] at e
  rcases Z.g.nw b u e with z | z
  ·rw [ay hb] at z
   exact Y.E.g.nw b u z
  ·rw [ay hb] at z
   exact .bg (Y.E.g.sH.free z)
 ·obtain⟨y,k1,k2⟩:=Y.E.sl i sl e
  refine⟨y,k1,?_⟩
  cases sl with
  |sh t=>exact Rep.mono c k2
  |own ts =>
   obtain⟨a,ws,rfl,g,P,J,r⟩:=k2
   have ha:a≠p:=fun z=>by subst z;rw [hp] at g;cases g
   refine⟨a,ws,rfl,q _ _ ha g,?_,J,aU.mono c r⟩
   rw [bW (nd ha)]
   cases n:F' a with
   |none=>rfl
   |some u =>
    rcases Z.g.nw a u n with z | z
    ·rw [ay ha,P] at z;cases z
    ·rw [ay ha,g] at z;cases z
noncomputable def Bq (x:Nat)(fk fe:FE):FZ:=fun p d τ=>(fe ((hide τ).set x .fd)).bind fun q=>if RE q.1=true then (fk τ).bind fun z=>match z.1 with
 | .str k=>if mx x p z.2=true/\d.1.length<sizeLine then some (d.put k q.1,z.2) else none
 |_=>none else none
theorem LF {nx:Str}{q1 p1 pos:Pos}{ek v:Expr}{fk fe:FE}(hu:.bf)(hv:PE X .f4 (vN x))(hk:SE X ek fk)(he:SE X v fe)
  (hs:swapsWith v (some (.Subscript .f4 ek p1)) pos.line X.env=pure false:=by rfl):SZ X x (.Assign [.Subscript .f4 ek p1] v pos) (Bq x fk fe):=fun Y0 Y9=>PS.weak (DW .e hv hk.any (K9 (Y0:=Y0) (Y9:=Y9) (x:=x) he) hs) fun D σ H hq__=>by
 obtain⟨F,τ,p,d,r,q0,e1,k⟩:=hq__
 obtain⟨⟨t,τ1⟩,e2,e1⟩:=bind_some e1
 dsimp only at e1
 split at e1
 ·next hn =>
  obtain⟨⟨z,τ2⟩,e3,e1⟩:=bind_some e1
  cases z with
  |str y =>
   dsimp only at e1
   split at e1
   ·next hh =>
    cases e1
    refine⟨F,τ,p,d,(t,τ1),q0,e2,hn,fun F1 H1 w d1 s1 r1=>?_⟩
    refine⟨_,d1.get,Y0,lH Y9 H1 p,F1,τ,.str y,τ2,d1.lend,e3,fun F2 H2 u E2 s2 r2=>?_⟩
    have d2:=d1.back E2 s2 (iZ hh.1)
    cases r2
    obtain⟨kvs,h1,h2,h3⟩:=d2.put (k:=y) (Rep.mono s2 r1)
    exact⟨p,_,rfl,EE.k (k:=.inr y) h1 (by rw [h2];exact hh.2),k F2 _ σ h3 .a8⟩
   ·cases e1
  |_=>cases e1
 ·cases e1
end
theorem pS {fg:FG}{ft:FT}{fk fv:FE}:∀{ts:List T} {τ:aE} {acc d:DS},acc.1.Nodup->fU fg ft fk fv ts τ acc=some d->d.1.Nodup
 |[],τ,acc,d,h,e=>by cases e;exact h
 |t::ts,τ,acc,d,h,e=>by
  obtain⟨τ1,e1,e⟩:=bind_some e
  obtain⟨p,e2,e⟩:=bind_some e
  split at e
  ·obtain⟨q,e3,e⟩:=bind_some e
   split at e
   ·obtain⟨z,e4,e⟩:=bind_some e
    split at e
    ·exact pS (kN h) e
    ·cases e
   ·cases e
  ·split at e
   ·exact pS h e
   ·cases e
section
variable {X:Cx}
open Classical in
noncomputable def xN (x no:Nat)(cap:.D)(fi:FA)(fg:FG)(ft:FT)(fk fv:FE)(g:Gk):FS:=fun τ=>(fi τ).bind fun q=>if bE (.bb (frzAll cap q.2))=true then (fU fg ft fk fv q.1 (.bb (frzAll cap q.2)) .gZ).bind fun d =>
 if h:x<(frzAll cap q.2).length/\∃r,∀p:Addr,g p d ((frzAll cap q.2).set x .eu)=some r then some h.2.choose else none else none
theorem EY {x no:Nat}{cap:.D}{fi:FA}{fg:FG}{ft:FT}{fk fv:FE}{g:Gk}{τ τ1:aE}{ts:List T}{d:DS}{r:R}(h1:fi τ=some (ts,τ1))(h2:frzAll cap τ1=τ1)(W:bE (.bb τ1)=true)(N:fU fg ft fk fv ts (.bb τ1) .gZ=some d)(hx:x<τ1.length)(h:∀p:Addr,g p d (τ1.set x .eu)=some r):xN x no cap fi fg ft fk fv g τ=some r:=by
 have ex:x<(frzAll cap τ1).length/\∃r,∀p:Addr,g p d ((frzAll cap τ1).set x .eu)=some r:=by rw [h2];exact⟨hx,r,h⟩
 have a:bE .bJ=true:=by rw [h2];exact W
 have b:fU fg ft fk fv ts .bJ .gZ=some d:=by rw [h2];exact N
 have h0:g 0 d ((frzAll cap τ1).set x (.z (.ptr 0)))=some r:=by rw [h2];exact h 0
 unfold xN
 rw [h1,zaa]
 rw [if_pos a,b,zaa,dif_pos ex]
 have:=h0.symm.trans (ex.2.choose_spec 0)
 exact this.symm
theorem FY (i:Nat){u:.bB}{g:Gk}{y:Str}{n h:Pos}{kx V tg iter:Expr}{l:.av}{scope:Scope}{pos:Pos}{N':.V}{no:Nat}{cap:.D}{fi:FA}{fg:FG}{ft:FT}{fk fv:FE}(hss:OW X i u g)(hNd:.fC)(hiy:X.N[i]? = some y)(R:.bR)(hu:.bf)
  (hx:X.xe=fun _ _=>False) (U:.bt) (B:.f7) (J:.cf)
  (d:∀(k j:Nat),cap[k]? = some j->∃x,N'[no+k]? = some x/\X.N[j]? = some x/\(x,NameKind.free)∈scope.names) (hi:.db)
  (M:∀C cs Y8 Y9 fp pins,SG .y tg fg) (Y:∀C cs Y8 Y9 fp pins,EF .y l ft) (hk:∀C cs Y8 Y9 fp pins,SE .y kx fk) (he:∀C cs Y8 Y9 fp pins,SE .y V fv)
  (W:swapsWith (.D V) (.Z y n) h.line X.env=pure true:=by rfl) (hs:∀x,foldedSetIterable iter X.env x=pure x:=by intro _;rfl):
  Bs X (.Assign [.Name y n] (.D V) h::u) (xN i no cap fi fg ft fk fv g):=by
 intro Y0 Y9
 refine mY.weak (jb (t:=fun Dn σ H=>∃F τ ts τ1 rs,aJ X.K Y0 Y9 F H σ τ/\fi τ=some (ts,τ1)/\bE .bJ=true/\fU fg ft fk fv ts .bJ .gZ=some rs/\i<(frzAll cap τ1).length/\∀F' H' σ' p,uR X.K Y0 Y9 F' H' σ' ((frzAll cap τ1).set i .eu) i p rs->aW F F'->Dn.nx σ' H') ?_ (hss Y0 Y9)) fun Dn σ H ⟨F,τ,r,E,e1,k⟩=>?_
 ·intro pins s σ H Dn I ⟨F,τ,ts,τ1,rs,E,e2,ha,e3,hil,q⟩
  have G:=.bq
  rw [exec_Assign_Name_used _ _ _ _ W]
  refine .ey
  refine .f (.Q .df)
  obtain⟨P,F3,vs,IX,T,sF,fD,A,h0D,lv,f,L⟩:=Z.ex
  obtain⟨m,hm⟩:=Z.ns
  refine (.aW (ng IX hNd hiy (.inl R) (v:=.ref D) rfl (fun K I'' w=>?_) (.inr R)))
  obtain⟨a,N,hab⟩:=w
  have aC:C≠a:=fun z=>by
   subst z
   rcases hab with z | z
   ·exact Z.cl z
   ·exact Z.cc _ _ z rfl
  refine⟨m,hm.sameBut N aC,fun h' sb'=>?_⟩
  exact⟨_,_,(I''.turned (t':=K.toks) (it:=C) (h':=h') (fun b o hb e=>(sb'.2 b hb).trans e) L Z.cl (.inr Z.c0) Z.cc Z.cp),q F3 P _ D ⟨T.set rfl,zam hil,⟨vs,A,lv,f⟩,pS zbD e3,fD,h0D⟩ sF⟩
 ·obtain⟨⟨ts,τ1⟩,e2,e1⟩:=bind_some e1
  split at e1
  ·next ha =>
   obtain⟨rs,e3,e1⟩:=bind_some e1
   split at e1
   ·next S =>
    cases e1
    exact⟨F,τ,ts,τ1,rs,E,e2,ha,e3,S.1,fun F' H' σ' p q s'=>⟨F',_,p,rs,_,q,S.2.choose_spec p,k.mono s'⟩⟩
   ·cases e1
  ·cases e1
end
section
variable {X:Cx}{o e:Expr}{pos:Pos}
theorem Bi:∀{ks:.V} {vs:.S},Vals (ks.map V.str) vs->StrsAre vs ks
 |[],_,.nil=>.nil
 |k::ks,_,.cons r rs=>by
  obtain⟨t,rfl⟩:=r
  exact .cons k t (Bi rs)
theorem tj (k:Str){vs:.S}{ns:.V}(h:StrsAre vs ns)(j:Nat)(h1:j<vs.length)(h2:j<ns.length):isStrOf k vs[j]=(ns[j] == k):=by
 obtain⟨t,e,_⟩:=pE h (zas h1)
 rw [e,zaD,zas h2]
 rfl
theorem DO {k:Str}:∀{ks:.V} {j:Nat} (h:j<ks.length),j<ks.idxOf k->(ks[j] == k)=false
 |[],_,h,_=>by cases h
 |x::ks,j,h,hl=>by
  cases e:x == k with
  |true=>rw [List.idxOf_cons,e] at hl;simp at hl
  |false =>
   rw [List.idxOf_cons,e] at hl
   cases j with
   |zero=>exact e
   |succ j=>exact DO (j:=j) _ (by simp at hl;exact hl)
noncomputable def Lj:V->List V->Hp->VK->Prop:=fun x vs H Q=>∃(l:Addr) (ks:.V) (k:Str),x=.ref l/\vs=[.str k]/\H l=some (.al (ks.map V.str))/\ks.length≤1000/\k∈ks/\Q (.af (ks.idxOf k:Nat)) H
theorem Fw:Ow X "list.index" Lj:=by
 intro pins s σ H x vs v us Q I L f h
 obtain⟨l,ks,k,rfl,rfl,A,hl,hk,q⟩:=h
 cases L
 obtain⟨M,rfl,m⟩:=Vals.one f
 obtain⟨t,rfl⟩:=m
 obtain⟨z,G,n,r,hlen,ho⟩:=I.lstM A
 have hi:=Bi r
 have hlen:=hi.length
 have S:=List.idxOf_lt_length_iff.mpr hk
 refine call_meets PySem.F.slot_list_index ⟨_,ho,rfl⟩ PySem.F.entry_list_index (PySem.F.args_list_index_2 _ _)
  (SeqAt.list_indexAt l G.toArray n none #[] _ _ _ (by simpa [hlen] using S) .e ?_ ?_) ⟨ho,fun y R=>(PyProof.Rows.eq_isStrOf k t hi y (by simpa using R)).at _ _,⟨.int _,H,.g6,.al,q⟩⟩
 ·show isStrOf k G[ks.idxOf k]=true
  rw [tj k hi _ _ S]
  simpa using List.getElem_idxOf S
 ·intro j a O
  show isStrOf k G[j]=false
  rw [tj k hi j _ .e]
  exact DO _ O
noncomputable def Bf:List T->Option (List Str)
 |[]=>some []
 | .str i::ts=>(Bf ts).map (i::·)
 |_=>none
theorem Bg:∀{ts:List T} {ks:.V},Bf ts=some ks->ts=ks.map T.str
 |[],ks,h=>by cases h;rfl
 |t::ts,ks,h=>by
  unfold Bf at h
  split at h
  ·next h0=>cases h0
  ·next i r h0 =>
   cases h0
   obtain⟨l,e,rfl⟩:=Option.map_eq_some_iff.mp h
   rw [Bg e]
   rfl
  ·cases h
noncomputable def PD:T->T->Option T
 | .lst ts,.str k=>(Bf ts).bind fun ks=>if ks.length≤1000/\k∈ks then some (.af (ks.idxOf k:Nat)) else none
 |_,_=>none
noncomputable def L4 (fo fe:FE):FE:=fun τ=>(fo τ).bind fun p=>(fe p.2).bind fun q=>(PD p.1 q.1).bind fun t=>some (t,q.2)
theorem wK {K:.l}{F:Hp}:∀{ks:.V} {vs:List V},aU K F (ks.map T.str) vs->vs=ks.map V.str
 |[],_,h=>h
 |k::ks,_,h=>by
  obtain⟨v,r,rfl,h1,h2⟩:=h
  rw [wK h2,h1]
  rfl
theorem FQ {p2 p3:Pos}{fo fe:FE}(ho:SE X o fo)(he:SE X e fe)
  (j:attributeBase o "index" X.env (.Z o)=eval o X.env:=by rfl)
  (d:(.s (starEach [e] X.env) .cm)=true:=by rfl)
  (c:.gV=true:=by rfl) (hs:starEach [e] X.env=(.m e)::starEach [] X.env:=by rfl) (l:(backTo p3 .gx).any (·.1)=false:=by rfl):
  SE X (.Call (.Attribute o "index" p2) [e] [] p3) (L4 fo fe):=fun Y0 Y9 =>
 PE.weak (DU zbI PySem.F.slot_list_index PySem.F.type_list_index Fw (ho Y0 Y9) (jw .eR qg hs) j d c hs l) fun σ H Q G=>by
  obtain⟨F,τ,t,τ',E,e1,q⟩:=G
  obtain⟨⟨y,τ1⟩,e2,e1⟩:=bind_some e1
  obtain⟨⟨z,τ2⟩,e3,e1⟩:=bind_some e1
  obtain⟨u,e4,e1⟩:=bind_some e1
  cases e1
  cases y with
  |lst ts =>
   cases z with
   |str k =>
    obtain⟨ks,b,e4⟩:=bind_some (e4)
    split at e4
    ·next U =>
     cases e4
     have p:=Bg b
     subst p
     refine⟨F,τ,_,τ1,E,e2,fun F1 H1 v V s1 r1=>?_⟩
     obtain⟨a,xs,rfl,h1,h2⟩:=r1
     obtain rfl:=wK h2
     refine⟨.inl ⟨rfl,_,gE.of (V.g.fh _ _ h1)⟩,F1,τ1,_,τ2,V,e3,fun F2 H2 w R s2 r2=>?_⟩
     cases r2
     exact⟨a,ks,k,rfl,rfl,R.g.fh _ _ (s2 _ _ h1),U.1,U.2,q F2 H2 _ R .a8 rfl⟩
    ·cases e4
   |_=>cases e4
  |_=>cases e4
end
end TM
set_option maxHeartbeats 4000000
namespace My
open PySem PySem.Spec PyProof.Rows L2 TM
variable {K:.l}
abbrev fP (t:T):Option Sl:='0' t
abbrev bf (n:Nat):T:=.int n
abbrev bI (i:Nat):FA:=ag (ae i) ar
abbrev aF (i:Int):FE:=fC .eA
noncomputable def top (i:Nat):Stmt:=PySem.Challenge.pw_echohouse_k26_whole_runs_add_and_go_on.main.body.getD i (.Pass .gP)
section
variable {P:.ah}{w:World}{K:.l}{mg:.H}{base:Heap}{k:Nat}{f:Addr}{fd:.eX}
abbrev ue:Stmt:=top 13
noncomputable def sr (n:Nat)(Y:.O):FS:=
  (aH (uU 0 1 (.e (.l sL 0) (.l sL 1)))
  (aH (dk (du .eF) (aH (.I 0 1)
  (.G .eF (kh (ak Y (.p 0 1)) (bS (aA (ai 0) (.a 1 2)))))) n)
  (aH (dk (du (.a xS 1 0)) (.I 0 1) n)
  (.a1 0))))
theorem gP:aK ["one","other","factors"] .bZ (ax ue):=by walk_at "sc"
theorem FC (n:Nat)(F:eP K "common" "common" ue f fd)(hb:Binds K fd .bZ [])(hm:mg "common" = some (.c f))(q1:Def P w K mg base k "half" 2 Y)(q2:mg "abs" = none)(q3:mg "SHORT" = some (.ag 4000 q4)):
  Def P w K mg base (k+1) "common" 2 (cj 3 2 (sr n Y)):=
 bH F gP hb hm fun cdv A outer s H E hr=>(aq (.am (aY sE rfl q2 rfl (.I 0)) (aY sE rfl q2 rfl (.I 1)))
  (aq (mU n PassesOwn.never (.L (D7 (.a 1)) q3) (aq (.am (.a 1) (.h fF 0 1))
  (aw (dQ (.L (D7 (.a 1)) q3) (aw (oz (.m q1 (.v 0 (.a 1))) (eS rfl (aZ (aD 0 gP.nd rfl .p) (.ai (aD 1 gP.nd rfl .p) (aD 2 gP.nd rfl .p))) (bh .b9)))) bO))))
  (aq (mU n PassesOwn.never (.y (.a 1) ao) (aw (.am (.a 1) (.h fF 0 1))))
  (.M (.a 0)))))
abbrev N2:Stmt:=top 14
abbrev oq:Stmt:=top 22
def su:FS:=
  (bx (hU (.aa bV (fC (.ty "int"))) (uV Ka (.aa bV (fC (.ty "bool"))))))
theorem A3:aK ["thing"] ["thing"] (ax oq):=by walk_at "sc"
theorem AK (F:eP K "is_whole" "is_whole" oq f fd)(hb:Binds K fd ["thing"] [])(hm:mg "is_whole" = some (.c f))(q5:mg "int" = none)(q6:.cu)(R:mg "bool" = none):
  Def P w K mg base (k+1) "is_whole" 1 (cj 1 1 (su)):=
 bH F A3 hb hm fun cdv A outer s H E hr=>(aw (aV (ly (.D 0 q5) (qo (N3 (.D 0 R))))))
abbrev jP:Stmt:=top 23
noncomputable def jC (a N:.O):FS:=
  (aH (dA (Dl (ny (dB (.aa bV (fC (.ty "tuple"))))) (du (au xS (.l cJ 0) (aF 2)))) (bx (fC .U)) bY)
  (aH (kh (ae 0) (bS (.a 1 2)))
  (bx (hU (.l a 1) (hU (.l a 2) (hU (.a PB 2 1) (au il (ak N (.p 1 2)) (aF 1))))))))
theorem je:aK ["thing","top","bottom"] ["thing"] (ax jP):=by walk_at "sc"
theorem tW (F:eP K "is_fraction" "is_fraction" jP f fd)(hb:Binds K fd ["thing"] [])(hm:mg "is_fraction" = some (.c f))(Q:Def P w K mg base k "is_whole" 1 a)(n:.ht)(l:mg "tuple" = none)(q6:.cu)(r:.cF):
  Def P w K mg base (k+1) "is_fraction" 1 (cj 3 1 (jC a N)):=
 bH F je hb hm fun cdv A outer s H E hr=>(aq (.ad (SW.st (pH (jU (di (.D 0 l))) (oB (.y (.i (.a 0)) ao)))) A4)
  (aq (oz (.a 0) (.ak (aD 1 je.nd rfl .p) (aD 2 je.nd rfl .p)))
  (.M (ly (.h Q (.a 1)) (ly (.h Q (.a 2)) (ly (jS Mn (.a 2) ao (bw _)) (qo (jS (gh hr.units) (.m n (.v 1 (.a 2))) ao (bw _)))))))))
abbrev CC:Stmt:=top 24
noncomputable def BC (N:.O):FS:=
  (aH (bF 2 (ak N (.e .cY (.X 1))))
  (aH (bF 3 (.Q (au cL .eU (au fK (.i br 1) (ae 2))) (au cL (.S 1) (au fK .cY (ae 2)))))
  (aH (bF 4 (ak N (.p 3 2)))
  (bx (eh (.e (.c fK 3 4) (au cL (au fK .cY (ae 2)) (au fK (.X 1) (ae 4)))))))))
theorem rV:aK ["one","other","shared","top","low"] .bZ (ax CC):=by walk_at "sc"
theorem KR (F:eP K "plus" "plus" CC f fd)(hb:Binds K fd .bZ [])(hm:mg "plus" = some (.c f))(n:.ht):
  Def P w K mg base (k+1) "plus" 2 (cj 5 2 (BC N)):=
 bH F rV hb hm fun cdv A outer s H E hr=>(aq (bu 2 rV.nd rfl .p (.m n (.f (.h 0) (.h 1))))
  (aq (bu 3 rV.nd rfl .p (.al (aL cX (.h 0) (.ae 1 2)) (aL cX (.h 1) (.ae 0 2))))
  (aq (bu 4 rV.nd rfl .p (.m n (.v 3 (.a 2))))
  (.M (eE (af (.h eR 3 4) (.aj (aL cX (.ae 0 2) (.ae 1 4)))))))))
abbrev yP:Stmt:=top 25
def rC (U:.O):FS:=
  (bx (ak U (.e (ae 0) (eh (ag (uV oS (.S 1)) (ag (.X 1) ar))))))
theorem IW:.M .bZ yP:=by walk_at "sc"
theorem Ik (F:eP K "minus" "minus" yP f fd)(hb:Binds K fd .bZ [])(hm:mg "minus" = some (.c f))(b:Def P w K mg base k "plus" 2 U):
  Def P w K mg base (k+1) "minus" 2 (cj 2 2 (rC U)):=
 bH F IW hb hm fun cdv A outer s H E hr=>(aw (aV (.m b (.v 0 (eE (af (D8 zm (.h 1)) (.aj (.h 1))))))))
abbrev yQ:Stmt:=top 26
noncomputable def xo (N:.O):FS:=
  (aH (bF 2 (ak N (.e (.X 0) (.X 1))))
  (aH (bF 3 (ak N (.e (.S 1) .cY)))
  (bx (eh (.e (au cL (au fK (.X 0) (ae 2)) (au fK (.S 1) (ae 3))) (au cL (au fK .cY (ae 3)) (au fK (.X 1) (ae 2))))))))
theorem uq:aK ["one","other","left","right"] .bZ (ax yQ):=by walk_at "sc"
theorem Il (F:eP K "times" "times" yQ f fd)(hb:Binds K fd .bZ [])(hm:mg "times" = some (.c f))(n:.ht):
  Def P w K mg base (k+1) "times" 2 (cj 4 2 (xo N)):=
 bH F uq hb hm fun cdv A outer s H E hr=>(aq (bu 2 uq.nd rfl .p (.m n (.f (.h 0) (.h 1))))
  (aq (bu 3 uq.nd rfl .p (.m n (.f (.h 1) (.h 0))))
  (.M (eE (af (aL cX (.ae 0 2) (.ae 1 3)) (.aj (aL cX (.ae 0 3) (.ae 1 2))))))))
abbrev mQ:Stmt:=top 27
noncomputable def qA (a:.O):FS:=
  (aH (bF 1 (zP (du (.i Fd .eU 0)) (fC .hD) (fC .fw)))
  (aH (bF 2 (ak a (.ac (ak sL (ag .eU ar)))))
  (aH (.G (.i il .cY 1) (bx (.c aT 1 2)))
  (bx (.ao (.c aT 1 2) (ak a (.ac (.aX 0))))))))
theorem lx:aK ["one","sign","top"] ["one"] (ax mQ):=by walk_at "sc"
theorem yM (F:eP K "show_frac" "show_frac" mQ f fd)(hb:Binds K fd ["one"] [])(hm:mg "show_frac" = some (.c f))(b:Def P w K mg base k "figures" 1 a)(q2:mg "abs" = none):
  Def P w K mg base (k+1) "show_frac" 1 (cj 3 1 (qA a)):=
 bH F lx hb hm fun cdv A outer s H E hr=>(aq (bu 1 lx.nd rfl .p (wV (bA DR (.h 0) ao (bw _)) bG bG))
  (aq (bu 2 lx.nd rfl .p (.U b (aY sE rfl q2 rfl (af (.h 0) aj))))
  (aq (.ad (.o (.h 0) ao) (.h bg 1 2))
  (.M (.al (aL bg (.h bg 1 2) bG) (.U b (.h 0)))))))
abbrev qj:Stmt:=top 28
noncomputable def vS (n:Nat):FS:=
  (aH (bK 1 ar)
  (aH (dk (du (au PB (ae 0) .fq)) (aH (kh (.aa O3 .fq) (bS (.a 0 2)))
  (eQ 1 (au M0 (.l lM 2) (aF 36)))) n)
  (aH (eQ 1 (.l lM 0))
  .dN)))
theorem lr:aK ["number","blocks","block"] ["number"] (ax qj):=by walk_at "sc"
theorem Cu (n:Nat)(F:eP K "figures" "figures" qj f fd)(hb:Binds K fd ["number"] [])(hm:mg "figures" = some (.c f))(b:mg "divmod" = none)(a:mg "str" = none):
  Def P w K mg base (k+1) "figures" 1 (cj 3 1 (vS n)):=
 bH F lr hb hm fun cdv A outer s H E hr=>(aq (ee 1 lr.nd rfl .p aj)
  (aq (mU n PassesOwn.never (bA Mn (.a 0) (aL Iq ao ao) (bw _)) (aq (oz (aY O2 rfl b rfl (.v 0 (aL Iq ao ao))) (.ak (aD 0 lr.nd rfl .p) (aD 2 lr.nd rfl .p)))
  (.ap 1 (iw PySem.F.slot_str_zfill PySem.F.type_str_zfill P9 PK (bU sG rfl a rfl (.I 2)) ao))))
  (aq (cZ 1 (pv 1) (bU sG rfl a rfl (.I 0)))
  (.M (.a0 (FR 1 (pv 1) (jy (D8 zm ao))))))))
abbrev mM:Stmt:=top 29
noncomputable def jk (c b d:.O):FS:=
  (aH (dA (ny (dB (.aa bV (fC (.ty "str"))))) fB bY)
  (aH (kh (.e qG 0 (.str "/")) (bS (aA (ai 1) (.a 2 3))))
  (aH (dA (ny (dB (ae 2))) (bF 3 (fC (.str "1"))) bY)
  (aH (dA (Dl (ny (dB (.j c (.e sY 1 .hD)))) (ny (dB (.l c 3)))) fB bY)
  (aH (bF 4 (eh (.e (.l gn 1) (.l gn 3))))
  (aH (dA (Dl (ny (dB (.l b 4))) (du (au xS (.l d 4) (ae 0)))) fB bY)
  (.a1 4)))))))
theorem fy:aK ["text","top","stroke","bottom","one"] .gQ (ax mM):=by walk_at "sc"
theorem yJ (F:eP K "read_frac" "read_frac" mM f fd)(hb:Binds K fd .gQ [])(hm:mg "read_frac" = some (.c f))(h:Def P w K mg base k "is_figures" 1 c)(g:Def P w K mg base k "is_fraction" 1 b)(i:Def P w K mg base k "show_frac" 1 d)(a:mg "str" = none)(q6:.cu)(q5:mg "int" = none):
  Def P w K mg base (k+1) "read_frac" 1 (cj 5 1 (jk c b d)):=
 bH F fy hb hm fun cdv A outer s H E hr=>(aq (.ay (jU (di (.D 0 a))))
  (aq (oz (iw PySem.F.slot_str_partition PySem.F.type_str_partition KA Kf (.a 0) bG) (eS rfl (aZ (aD 1 fy.nd rfl .p) (.ai (aD 2 fy.nd rfl .p) (aD 3 fy.nd rfl .p))) (bh .b9)))
  (aq (dQ (jU (di (.a 2))) (aw (bu 3 fy.nd rfl .p bG)) bO)
  (aq (.ay (SW.st (pH (jU (di (.h h (iw zbQ zbR HS Hu (.a 1) bG)))) (oB (jU (di (.h h (.a 3))))))))
  (aq (bu 4 fy.nd rfl .p (eE (.f (bU rF rfl q5 rfl (.I 1)) (bU rF rfl q5 rfl (.I 3)))))
  (aq (.ay (SW.st (pH (jU (di (.h g (.a 4)))) (oB (.y (.h i (.a 4)) (.a 0))))))
  (.M (.a 4))))))))
theorem qX:(["sign"]:List Str).Nodup:=.c
abbrev la:Stmt:=top 30
def oK:FS:=
  (bx (hU (.an 30) (.j kA .bQ)))
theorem vK:aK .gQ .gQ (ax la):=by walk_at "sc"
theorem vB (F:eP K "is_figures" "is_figures" la f fd)(hb:Binds K fd .gQ [])(hm:mg "is_figures" = some (.c f))(r:.cF)(a:mg "all" = none)(b:mg "MOST_FIGURES" = some (.ag 30 c)):
  Def P w K mg base (k+1) "is_figures" 1 (cj 1 1 (oK)):=
 bH F vK hb hm fun cdv A outer s H E hr=>(aw (aV (ly (A5 qK qK ao (.i (.a 0)) (eM rfl b)) (qo (.ah (bR rfl rfl .bG rfl .bF (Je (.a 0)) (fun _ _ _ _ _ _=>(aD 0 qX rfl .p)) .ax (fun _ _ _ _ _ _=>(jS Im (.a 0) bG rfl))))))))
abbrev jK:Stmt:=inClass (top 32) 1
def nK:FS:=
  (bx (eh ar))
theorem um:.M .aT jK:=by walk_at "sc"
theorem lL {C:Addr}(F:eP K "wants" "Part.wants" jK f fd)(hb:.e3)(cl:eV K C)(hm:.hg):
  dH P w K mg base (k+1) C "wants" 1 (cj 1 1 (nK)):=
 eD F um hb cl hm fun cdv A outer s H E hr=>(aw (aV (eE aj)))
abbrev jJ:Stmt:=inClass (top 32) 2
def nJ:FS:=
  (bx (fC (.Y (0) (1))))
theorem uk:.M .ab jJ:=by walk_at "sc"
theorem ri {C:Addr}(F:eP K "tells" "Part.tells" jJ f fd)(hb:.f9)(cl:eV K C)(hm:.fK)(c:mg "NOUGHT" = some (.c d))(g:K.lookup d=some ⟨.aM, j,.seq #[.int (0) l,.int (1) m] n,o⟩):
  dH P w K mg base (k+1) C "tells" 2 (cj 2 2 (nJ)):=
 eD F uk hb cl hm fun cdv A outer s H E hr=>(aw (aV (A6 rfl c g)))
abbrev jc:Stmt:=inClass (top 33) 0
def gm:Addr->FI:=
  (lN "name" (ae 1)
  B5)
theorem rA:aK .fN .fN (ax jc):=by walk_at "sc"
theorem Nq {C:Addr}{m:Str}(F:eP K "__init__" "In.__init__" jc f fd)(hb:Binds K fd .fN [])(cl:eV K C)(M:Mk K C f)(hm:.fA)(a:bo K C "name"):
  iT P w K mg base (k+2) m C 1 (dI 2 1 (gm)):=
 m8 F rA hb M hm rfl fun cdv A outer s H E hr=>(eG cl a (pv 0) (.a 1)
  nc)
abbrev mF:Stmt:=inClass (top 33) 2
def qy (j c b h:Addr):FS:=
  (bx (au iY (ae 1) (.aq 0)))
theorem yR:.M .ab mF:=by walk_at "sc"
theorem vp {C:Addr}(F:eP K "tells" "In.tells" mF f fd)(hb:.f9)(cl:eV K C)(hm:.fK)(u:∀C∈[j,c,b,h],eV K C/\bo K C "name"):
  dH P w K mg base (k+1) C "tells" 2 (cj 2 2 (qy j c b h)):=
 eD F yR hb cl hm fun cdv A outer s H E hr=>(aw (aV (.aE (dh u (.a 0)))))
abbrev gL:Stmt:=inClass (top 34) 0
def fj:Addr->FI:=
  (lN "name" (ae 1)
  (lN "source" (ae 2)
  B5))
theorem pk:aK .gw .gw (ax gL):=by walk_at "sc"
theorem Ii {C:Addr}{m:Str}(F:eP K "__init__" "Cell.__init__" gL f fd)(hb:Binds K fd .gw [])(cl:eV K C)(M:Mk K C f)(hm:.fA)(a:bo K C "name")(b:bo K C "source"):
  iT P w K mg base (k+2) m C 2 (dI 3 2 (fj)):=
 m8 F pk hb M hm rfl fun cdv A outer s H E hr=>(eG cl a (pv 0) (.a 1)
  (eG cl b (pv 0) (.a 2)
  nc))
abbrev jG:Stmt:=inClass (top 34) 2
def nE (c b g:Addr):FS:=
  (bx (eh (.ac .c9)))
theorem uh:.M .aT jG:=by walk_at "sc"
theorem rf {C:Addr}(F:eP K "wants" "Cell.wants" jG f fd)(hb:.e3)(cl:eV K C)(hm:.hg)(a:∀C∈[c,b,g],eV K C/\bo K C "source"):
  dH P w K mg base (k+1) C "wants" 1 (cj 1 1 (nE c b g)):=
 eD F uh hb cl hm fun cdv A outer s H E hr=>(aw (aV (eE (.aj .f1))))
abbrev jF:Stmt:=inClass (top 34) 3
def nD (c b g:Addr):FS:=
  (bx (au iY (ae 1) .c9))
theorem ug:.M .ab jF:=by walk_at "sc"
theorem qZ {C:Addr}(F:eP K "tells" "Cell.tells" jF f fd)(hb:.f9)(cl:eV K C)(hm:.fK)(a:∀C∈[c,b,g],eV K C/\bo K C "source"):
  dH P w K mg base (k+1) C "tells" 2 (cj 2 2 (nD c b g)):=
 eD F ug hb cl hm fun cdv A outer s H E hr=>(aw (aV (.aE .f1)))
abbrev gM:Stmt:=inClass (top 35) 0
noncomputable def fq:Addr->FI:=
  (lN "name" (ae 1)
  (lN "by" (ae 2)
  (lN "source" (ae 3)
  B5)))
theorem pq:aK .eN .eN (ax gM):=by walk_at "sc"
theorem Ij {C:Addr}{m:Str}(F:eP K "__init__" "Gain.__init__" gM f fd)(hb:Binds K fd .eN [])(cl:eV K C)(M:Mk K C f)(hm:.fA)(a:bo K C "name")(c:bo K C "by")(b:bo K C "source"):
  iT P w K mg base (k+2) m C 3 (dI 4 3 (fq)):=
 m8 F pq hb M hm rfl fun cdv A outer s H E hr=>(eG cl a (pv 0) (.a 1)
  (eG cl c (pv 0) (.a 2)
  (eG cl b (pv 0) (.a 3)
  nc)))
abbrev jI:Stmt:=inClass (top 35) 2
def nI (c b g:Addr):FS:=
  (bx (eh (.ac .c9)))
theorem uj:.M .aT jI:=by walk_at "sc"
theorem rh {C:Addr}(F:eP K "wants" "Gain.wants" jI f fd)(hb:.e3)(cl:eV K C)(hm:.hg)(a:∀C∈[c,b,g],eV K C/\bo K C "source"):
  dH P w K mg base (k+1) C "wants" 1 (cj 1 1 (nI c b g)):=
 eD F uj hb cl hm fun cdv A outer s H E hr=>(aw (aV (eE (.aj .f1))))
abbrev jH:Stmt:=inClass (top 35) 3
noncomputable def nG (b c g:Addr)(d:.O):FS:=
  (bx (ak d (.e (dJ [b] "by" (ae 0)) (au iY (ae 1) .c9))))
theorem ui:.M .ab jH:=by walk_at "sc"
theorem rg {C:Addr}(F:eP K "tells" "Gain.tells" jH f fd)(hb:.f9)(cl:eV K C)(hm:.fK)(i:Def P w K mg base k "times" 2 d)(h:∀C∈[b],eV K C/\bo K C "by")(a:∀C∈[c,b,g],eV K C/\bo K C "source"):
  dH P w K mg base (k+1) C "tells" 2 (cj 2 2 (nG b c g d)):=
 eD F ui hb cl hm fun cdv A outer s H E hr=>(aw (aV (.m i (.f (dh h (.a 0)) (.aE .f1)))))
abbrev ir:Stmt:=inClass (top 36) 0
def fR:Addr->FI:=
  (lN "name" (ae 1)
  (lN "terms" (ae 2)
  B5))
theorem qm:aK .e7 .e7 (ax ir):=by walk_at "sc"
theorem KQ {C:Addr}{m:Str}(F:eP K "__init__" "Sum.__init__" ir f fd)(hb:Binds K fd .e7 [])(cl:eV K C)(M:Mk K C f)(hm:.fA)(a:bo K C "name")(b:bo K C "terms"):
  iT P w K mg base (k+2) m C 2 (dI 3 2 (fR)):=
 m8 F qm hb M hm rfl fun cdv A outer s H E hr=>(eG cl a (pv 0) (.a 1)
  (eG cl b (pv 0) (.a 2)
  nc))
theorem lI:(["sign","name"]:List Str).Nodup:=.c
abbrev kR:Stmt:=inClass (top 36) 2
def iF (h:Addr):FS:=
  (bx (.j ig (.aq (dJ [h] "terms" (ae 0)) (ae 1))))
theorem vH:.M .aT kR:=by walk_at "sc"
theorem tQ {C:Addr}(F:eP K "wants" "Sum.wants" kR f fd)(hb:.e3)(cl:eV K C)(hm:.hg)(a:∀C∈[h],eV K C/\bo K C "terms")(l:mg "tuple" = none):
  dH P w K mg base (k+1) C "wants" 1 (cj 1 1 (iF h)):=
 eD F vH hb cl hm fun cdv A outer s H E hr=>(aw (aV (.aM (.aj (bR rfl rfl .bG rfl .bF (cg .f1) (.R (.r lI)) .ax (fun _ _ _ _ _ _=>(aa 1 (pv 1))))))))
abbrev kQ:Stmt:=inClass (top 36) 3
noncomputable def iE (h:Addr)(U i:.O):FS:=
  (aH (bF 2 (fC (.Y (0) (1))))
  (aH (fW (aX (dJ [h] "terms" (ae 0))) (bS (.a 3 4)) (bF 2 (zP (du (.a il 3 1)) (.aN U) (.aN i))))
  (.a1 2)))
theorem fM:aK ["self","values","total","sign","name"] .ab (ax kQ):=by walk_at "sc"
theorem tP {C:Addr}(F:eP K "tells" "Sum.tells" kQ f fd)(hb:.f9)(cl:eV K C)(hm:.fK)(b:Def P w K mg base k "plus" 2 U)(p:Def P w K mg base k "minus" 2 i)(a:∀C∈[h],eV K C/\bo K C "terms")(c:mg "NOUGHT" = some (.c d))(g:K.lookup d=some ⟨.aM, j,.seq #[.int (0) l,.int (1) m] n,o⟩):
  dH P w K mg base (k+1) C "tells" 2 (cj 5 2 (iE h U i)):=
 eD F fM hb cl hm fun cdv A outer s H E hr=>(aq (bu 2 fM.nd rfl .p (A6 rfl c g))
  (aq (fJ PassesOwn.never rfl (cg .f1) (.ak (aD 3 fM.nd rfl .p) (aD 4 fM.nd rfl .p)) (aw (bu 2 fM.nd rfl .p (wV (.o (.a 3) ao) (.m b (.v 2 (.aE (.a 4)))) (.m p (.v 2 (.aE (.a 4))))))))
  (.M (.a 2))))
abbrev iq:Stmt:=inClass (top 37) 0
def fQ:Addr->FI:=
  (lN "source" (ae 1)
  B5)
theorem ql:aK ["self",.cP] ["self",.cP] (ax iq):=by walk_at "sc"
theorem KP {C:Addr}{m:Str}(F:eP K "__init__" "Out.__init__" iq f fd)(hb:Binds K fd ["self",.cP] [])(cl:eV K C)(M:Mk K C f)(hm:.fA)(b:bo K C "source"):
  iT P w K mg base (k+2) m C 1 (dI 2 1 (fQ)):=
 m8 F ql hb M hm rfl fun cdv A outer s H E hr=>(eG cl b (pv 0) (.a 1)
  nc)
abbrev kP:Stmt:=inClass (top 37) 2
def oJ (c b g:Addr):FS:=
  (bx (eh (.ac .c9)))
theorem vG:.M .aT kP:=by walk_at "sc"
theorem tN {C:Addr}(F:eP K "wants" "Out.wants" kP f fd)(hb:.e3)(cl:eV K C)(hm:.hg)(a:∀C∈[c,b,g],eV K C/\bo K C "source"):
  dH P w K mg base (k+1) C "wants" 1 (cj 1 1 (oJ c b g)):=
 eD F vG hb cl hm fun cdv A outer s H E hr=>(aw (aV (eE (.aj .f1))))
abbrev kO:Stmt:=inClass (top 37) 3
def oI (c b g:Addr):FS:=
  (bx (au iY (ae 1) .c9))
theorem vF:.M .ab kO:=by walk_at "sc"
theorem tM {C:Addr}(F:eP K "tells" "Out.tells" kO f fd)(hb:.f9)(cl:eV K C)(hm:.fK)(a:∀C∈[c,b,g],eV K C/\bo K C "source"):
  dH P w K mg base (k+1) C "tells" 2 (cj 2 2 (oI c b g)):=
 eD F vF hb cl hm fun cdv A outer s H E hr=>(aw (aV (.aE .f1)))
theorem AF:(["number"]:List Str).Nodup:=.c
abbrev uf:Stmt:=top 39
noncomputable def zG (b:.O):FS:=
  (bx (hU (.aa bV (fC (.ty "list"))) (hU (au il (.l cJ 0) (ae 1)) (.j kA (.X .dr (.l b 0))))))
theorem FN:aK ["thing","many"] ["thing","many"] (ax uf):=by walk_at "sc"
theorem FD (F:eP K "is_row" "is_row" uf f fd)(hb:Binds K fd ["thing","many"] [])(hm:mg "is_row" = some (.c f))(g:Def P w K mg base k "is_fraction" 1 b)(y:mg "list" = none)(q6:.cu)(r:.cF)(a:mg "all" = none):
  Def P w K mg base (k+1) "is_row" 2 (cj 2 2 (zG b)):=
 bH F FN hb hm fun cdv A outer s H E hr=>(aw (aV (ly (.D 0 y) (ly (jS (gh hr.units) (.i (.a 0)) (.a 1) (bw _)) (qo (.ah (bR rfl rfl .bG rfl .bF .hB (fun _ _ _ _ _ _=>(aD 0 AF rfl .p)) .ax (fun _ _ _ _ _ _=>(aG g hr rfl (.I 0) (ah az))))))))))
theorem qY:(["given","ins"]:List Str).Nodup:=.c
abbrev lh:Stmt:=top 42
noncomputable def iN (b:.O):FS:=
  (aH (dA (ny (dB (ak b (.p 2 0)))) fB bY)
  (aH (dA (Dl (ny (dB (ak bV (.c 3 (fC (.ty "list")))))) (du (au zw (.l cJ 3) (aF 60)))) fB bY)
  (dA (ny (dB (.j kA (bq 1 [1] (aX (ae 3)) (ai 0) aI (ak b (.p 0 1)))))) fB bY)))
theorem vL:aK .eB .eB (ax lh):=by walk_at "sc"
theorem vD (F:eP K "refuse_run" "refuse_run" lh f fd)(hb:Binds K fd .eB [])(hm:mg "refuse_run" = some (.c f))(c:Def P w K mg base k "is_row" 2 b)(y:mg "list" = none)(q6:.cu)(r:.cF)(a:mg "all" = none)(d:mg "MOST_TURNS" = some (.ag 60 g)):
  Def P w K mg base (k+1) "refuse_run" 4 (cj 4 4 (iN b)):=
 bH F vL hb hm fun cdv A outer s H E hr=>(aq (.ay (jU (di (.m c (.v 2 (.a 0))))))
  (aq (.ay (SW.st (pH (jU (di (.D 3 y))) (oB (.L (.i (.a 3)) d)))))
  (aw (.ay (jU (di (.ah (bR (N':=["given","ins"]) (no:=1) (cap:=[1]) rfl rfl .bG rfl .bF (cg (.a 3)) (fun _ _ _ _ _ _=>(aD 0 qY rfl .p)) .ax (fun _ _ _ _ _ _=>(aG c hr rfl (.v 0 (.a 1)) .L))))))))))
theorem lO:.cq:=.c
theorem lP:.cq:=.c
theorem lQ:.cq:=.c
abbrev fZ:Stmt:=inClass (top 52) 0
noncomputable def eu (v j c b h g i:Addr)(p r t u:.O):Addr->FI:=
  (Fm (bF 2 (.l p 1))
  (Fm (sS (.l r 2))
  (Fm (sS (.l t 2))
  (lN "whole" (ae 1)
  (lN "all_parts" (.l ig 2)
  (lN "in_parts" (.j ig (.q (ae 2) (gF [(v,false),(j,true),(c,false),(b,false),(h,false),(g,false),(i,false)] (ae 0))))
  (lN "cell_parts" (.j ig (.q (ae 2) (.t (c,true) (g,false))))
  (lN "out_parts" (.j ig (.q (ae 2) (.t (c,false) (g,true))))
  (lN "inner_parts" (.j ig (.l u 2))
  B5)))))))))
theorem iB:aK ["self","text","parts"] ["self","text"] (ax fZ):=by walk_at "sc"
theorem Cr {C:Addr}{m:Str}(F:eP K "__init__" "Wiring.__init__" fZ f fd)(hb:Binds K fd ["self","text"] [])(cl:eV K C)(M:Mk K C f)(hm:.fA)(z:bo K C "whole")(B:bo K C "all_parts")(D:bo K C "in_parts")(G:bo K C "cell_parts")(I:bo K C "out_parts")(J:bo K C "inner_parts")(L:Def P w K mg base k "read_parts" 1 p)(N:Def P w K mg base k "refuse_names" 1 r)(O:Def P w K mg base k "refuse_counts" 1 t)(Q:Def P w K mg base k "in_order" 1 u)(o:∀a∈[(v,false),(j,true),(c,false),(b,false),(h,false),(g,false),(i,false)],jX K j a.1 a.2)(d:∀a∈[(v,false),(j,false),(c,true),(b,false),(h,false),(g,false),(i,false)],jX K c a.1 a.2)(n:∀a∈[(v,false),(j,false),(c,false),(b,false),(h,false),(g,true),(i,false)],jX K g a.1 a.2)(x:mg "Cell" = some (.c c))(y:mg "In" = some (.c j))(q:mg "Out" = some (.c g))(l:mg "tuple" = none)(q6:.cu):
  iT P w K mg base (k+2) m C 1 (dI 3 1 (eu v j c b h g i p r t u)):=
 m8 F iB hb M hm rfl fun cdv A outer s H E hr=>(yY (bu 2 iB.nd rfl .p (.h L (.a 1)))
  (yY (zc (.h N (.a 2)))
  (yY (zc (.h O (.a 2)))
  (eG cl z (pv 0) (.a 1)
  (eG cl B (pv 0) (.aM (.I 2))
  (eG cl D (pv 0) (.aM (.ac (fun _ _ _ _ _ _=>(aD 0 lO rfl .p)) (.O o y)))
  (eG cl G (pv 0) (.aM (.ac (fun _ _ _ _ _ _=>(aD 0 lP rfl .p)) (.O d x)))
  (eG cl I (pv 0) (.aM (.ac (fun _ _ _ _ _ _=>(aD 0 lQ rfl .p)) (.O n q)))
  (eG cl J (pv 0) (.aM (.aj (.h Q (.a 2))))
  nc)))))))))
abbrev jL:Stmt:=inClass (top 52) 3
def nL (i:Addr):FS:=
  (bx (.j cJ (dJ [i] "in_parts" (ae 0))))
theorem uo:.M .aT jL:=by walk_at "sc"
theorem rj {C:Addr}(F:eP K "ins" "Wiring.ins" jL f fd)(hb:.e3)(cl:eV K C)(hm:Meth K C "ins" f)(p:∀C∈[i],eV K C/\bo K C "in_parts")(r:.cF):
  dH P w K mg base (k+1) C "ins" 1 (cj 1 1 (nL i)):=
 eD F uo hb cl hm fun cdv A outer s H E hr=>(aw (aV (.i (dh p (.a 0)))))
theorem km:.cq:=.c
abbrev eX:Stmt:=inClass (top 52) 5
def gZ (i j c b h:Addr):FS:=
  (bx (.X (aX .fD) (.aq 0)))
theorem lV:.M .aT eX:=by walk_at "sc"
theorem kK {C:Addr}(F:eP K "cell_names" "Wiring.cell_names" eX f fd)(hb:.e3)(cl:eV K C)(hm:Meth K C "cell_names" f)(t:∀C∈[i],eV K C/\bo K C "cell_parts")(u:∀C∈[j,c,b,h],eV K C/\bo K C "name"):
  dH P w K mg base (k+1) C "cell_names" 1 (cj 1 1 (gZ i j c b h)):=
 eD F lV hb cl hm fun cdv A outer s H E hr=>(aw (aV (bR (N':=["part"]) (no:=1) (cap:=[]) rfl rfl .bG rfl .bF (cg (dh t (.a 0))) (fun _ _ _ _ _ _=>(aD 0 km rfl .p)) .ax (fun _ _ _ _ _ _=>(dh u (.a 0))))))
theorem qc:(["part","values"]:List Str).Nodup:=.c
theorem qd:(["part","values"]:List Str).Nodup:=.c
abbrev jM:Stmt:=inClass (top 52) 7
noncomputable def gR (i v j c b h g:Addr)(z:.O)(p u d q l m n o:.O):FS:=
  (aH (sS (ak z (ag (.j cJ .fD) (ag (cv [(i,p)] "ins" (ae 0) ar) (.p 1 2)))))
  (aH (bF 3 (.l dList 1))
  (aH (bK 4 ar)
  (aH (fW (aX (ae 2)) (ai 5) (aH (bF 6 (cv [(i,u)] "values_at" (ae 0) (.p 3 5)))
  (aH (eQ 4 (bq 1 [6] (aX (dJ [i] "out_parts" (ae 0))) (ai 0) aI (.J 0 1)))
  (cU 3 1 [6] (aX .fD) (ai 0) aI (.J 0 1)))))
  (bx (eh (.p 4 3)))))))
theorem dZ:aK ["self","start","inputs","state","outputs","given","values"] ["self","start","inputs"] (ax jM):=by walk_at "sc"
theorem rl {C:Addr}(F:eP K "run" "Wiring.run" jM f fd)(hb:Binds K fd ["self","start","inputs"] [])(cl:eV K C)(hm:Meth K C "run" f)(B:Def P w K mg base k "refuse_run" 4 z)(DM_ins:∀a∈[(i,p)],dH P w K mg base k a.1 "ins" 1 a.2)(DM_values_at:∀a∈[(i,u)],dH P w K mg base k a.1 "values_at" 3 a.2)(DM_tells:∀a∈[(v,d),(j,q),(c,l),(b,m),(h,n),(g,o)],dH P w K mg base k a.1 "tells" 2 a.2)(t:∀C∈[i],eV K C/\bo K C "cell_parts")(x:∀C∈[i],eV K C/\bo K C "out_parts")(r:.cF)(y:mg "list" = none):
  dH P w K mg base (k+1) C "run" 3 (cj 7 3 (gR i v j c b h g z p u d q l m n o)):=
 eD F dZ hb cl hm fun cdv A outer s H E hr=>(aq (zc (aG B hr rfl (af (.i (dh t (.a 0))) (af (mT DM_ins hr (.a 0)) (.v 1 (.a 2)))) (ah (ah .L))))
  (aq (bu 3 dZ.nd rfl .p (bU JO rfl y rfl (.I 1)))
  (aq (ee 4 dZ.nd rfl .p aj)
  (aq (fJ PassesOwn.never rfl (cg (.a 2)) (aD 5 dZ.nd rfl .p) (aq (bu 6 dZ.nd rfl .dy (iQ DM_values_at hr (.a 0) (.v 3 (.a 5)) (fun τ ts τ' e=>congrArg (· + 1) .fJ)))
  (aq (cZ 4 (pv 4) (bR (N':=["part","values"]) (no:=1) (cap:=[6]) rfl rfl .bG rfl .bF (cg (dh x (.a 0))) (fun _ _ _ _ _ _=>(aD 0 qc rfl .p)) .ax (fun _ _ _ _ _ _=>(iQ DM_tells hr (.a 0) (.I 1) (fun τ ts τ' e=>congrArg (· + 1) ((ah az) τ ts τ' e))))))
  (aw (gQ dZ.nd rfl rfl (N':=["part","values"]) (no:=1) (cap:=[6]) rfl rfl .bG rfl .bF (cg (dh t (.a 0))) (fun _ _ _ _ _ _=>(aD 0 qd rfl .p)) .ax (fun _ _ _ _ _ _=>(iQ DM_tells hr (.a 0) (.I 1) (fun τ ts τ' e=>congrArg (· + 1) ((ah az) τ ts τ' e)))))))))
  (.M (eE (.v 4 (.a 3))))))))
theorem gu:(["part","number"]:List Str).Nodup:=.c
abbrev fG:Stmt:=inClass (top 52) 8
noncomputable def dX (v j c b h g i:Addr)(d q l m n o:.O):FS:=
  (xN 3 2 [] (hV (ag (dJ [i] "in_parts" (ae 0)) (bI 2))) .bU aI (.aq 0) (ae 1)
  (pK (CU 3 (hV (ag .fD (bI 1))) (bS (.a 4 5)) (Bp 3 (.aq 4) (ae 5)))
  (pK (CU 3 (aX (dJ [i] "inner_parts" (ae 0))) (ai 4) (Bq 3 (.aq 4) (.J 4 3)))
  (zEnd 3 (.a1 3)))))
theorem cV:aK ["self","state","given","values","part","number"] ["self","state","given"] (ax fG):=by walk_at "sc"
theorem lT {C:Addr}(F:eP K "values_at" "Wiring.values_at" fG f fd)(hb:Binds K fd ["self","state","given"] [])(cl:eV K C)(hm:Meth K C "values_at" f)(DM_tells:∀a∈[(q55,dM_Part__tells),(q38,dM_In__tells),(q39,dM_Cell__tells),(q40,dM_Gain__tells),(q41,dM_Sum__tells),(q43,dM_Out__tells)],dH P w K mg base k a.1 "tells" 2 a.2)(hf_cell_parts:∀C∈[q56],eV K C/\bo K C "cell_parts")(hf_name:∀C∈[q38,q39,q40,q41],eV K C/\bo K C "name")(hf_inner_parts:∀C∈[q56],eV K C/\bo K C "inner_parts")(hf_in_parts:∀C∈[q56],eV K C/\bo K C "in_parts")(q76:mg "zip" = none):
  dH P w K mg base (k+1) C "values_at" 3 (cj 6 3 (dX q55 q38 q39 q40 q41 q43 q56 dM_Part__tells dM_In__tells dM_Cell__tells dM_Gain__tells dM_Sum__tells dM_Out__tells)):=
 eD F cV hb cl hm fun cdv A outer s H E hr=>(FY 3 (ux (CK PassesOwn.never rfl (qp rfl q76 (.f (dh hf_cell_parts (.a 0)) (.a 1))) (.ak (aD 4 cV.nd rfl .p) (aD 5 cV.nd rfl .p)) (rX (Jm hr.units (pv 3) (dh hf_name (.a 4)) (.a 5))))
  (ux (CK PassesOwn.never rfl (cg (dh hf_inner_parts (.a 0))) (aD 4 cV.nd rfl .p) (rX (LF hr.units (pv 3) (dh hf_name (.a 4)) (iQ DM_tells hr (.a 4) (.I 3) (fun τ ts τ' e=>congrArg (· + 1) ((ah az) τ ts τ' e))))))
  (Em (.M (.a 3))))) cV.nd rfl rfl hr.units (N':=["part","number"]) (no:=2) (cap:=[]) rfl rfl .bG rfl .bF (qp rfl q76 (.f (dh hf_in_parts (.a 0)) (.a 2))) (.R (.r gu)) .ax (fun _ _ _ _ _ _=>(dh hf_name (.a 0))) (fun _ _ _ _ _ _=>(aa 1 (pv 1))))
abbrev lg:Stmt:=top 53
noncomputable def iM (a:.O):FS:=
  (aH (bK 1 ar)
  (aH (fW (sU (.ac (.e ip 0 (.str "\n")))) (bS (.a 2 3)) (aH (bF 4 (.l a 3))
  (aH (.G (au OI (ae 4) (fC .non)) fB)
  (eQ 1 (ae 4)))))
  (.a1 1)))
theorem fO : aK ["text","parts","place","row","part"] .gQ (ax lg) := by walk_at "sc"
theorem vC (F : eP K "read_parts" "read_parts" lg f fd)(hb : Binds K fd .gQ [])(hm : mg "read_parts" = some (.c f))(b : Def P w K mg base k "read_part" 1 a)(c : mg "enumerate" = none):
  Def P w K mg base (k+1) "read_parts" 1 (cj 5 1 (iM a)) :=
 bH F fO hb hm fun cdv A outer s H E hr => (aq (ee 1 fO.nd rfl .p aj)
  (aq (fJ PassesOwn.never rfl (Lv rfl c (.aj (iw PySem.F.slot_str_split PySem.F.type_str_split AE zY (.a 0) bG))) (.ak (aD 2 fO.nd rfl .p) (aD 3 fO.nd rfl .p)) (aq (bu 4 fO.nd rfl .p (.h b (.a 3)))
  (aq (.ay (bA Ql (.a 4) oy (bw _)))
  (.ap 1 (.a 4)))))
  (.M (.a 1))))
abbrev mP : Stmt := top 54
noncomputable def jn (j c g : Addr)(a l m : List T->Option T)(h b d : List T->Option uM): FS :=
  (aH (kh (.e ip 0 (.str " ")) (xU (.a 1 2)))
  (aH (dA (kE (du (.e il 1 (.str "in"))) (dB (ak a (.c 2 (aF 1))))) (bx (mj j h (.ac (.S 2)))) bY)
  (aH (dA (kE (du (.e il 1 (.str "cell"))) (dB (ak a (.e (ae 2) (aF 2))))) (bx (mj c b (.e (.S 2) (.aX 2)))) bY)
  (aH (dA (kE (du (.e il 1 (.str "gain"))) (du (au il (.l cJ 2) (aF 3)))) (bx (ak l (ag (.S 2) (.e (.aX 2) (.X 2))))) bY)
  (aH (dA (kE (du (.e il 1 (.str "sum"))) (du (ik uY uY (aF 2) (.l cJ 2) (.Q (aF 4) (aF 1))))) (bx (ak m (.e (.S 2) (qE (ae 2) (cT (aF 1)) cP)))) bY)
  (aH (dA (kE (du (.e il 1 (.str "out"))) (dB (ak a (.c 2 (aF 1))))) (bx (mj g d (.ac (.S 2)))) bY)
  (bx (fC .non))))))))
theorem lu : aK ["row","word","words"] ["row"] (ax mP) := by walk_at "sc"
theorem yL (F : eP K "read_part" "read_part" mP f fd)(hb : Binds K fd ["row"] [])(hm : mg "read_part" = some (.c f))(i : Def P w K mg base k "are_names" 2 a)(n : Def P w K mg base k "read_gain" 3 l)(o : Def P w K mg base k "read_sum" 2 m)(DI_In : iT P w K mg base k "In" j 1 h)(DI_Cell : iT P w K mg base k "Cell" c 2 b)(DI_Out : iT P w K mg base k "Out" g 1 d)(r : mg "len" = none)(p : mg "MOST_TERMS" = some (.ag 4 q)):
  Def P w K mg base (k+1) "read_part" 1 (cj 3 1 (jn j c g a l m h b d)) :=
 bH F lu hb hm fun cdv A outer s H E hr => (aq (oz (iw PySem.F.slot_str_split PySem.F.type_str_split AE zY (.a 0) bG) (Lq rfl (.ai (aD 1 lu.nd rfl .p) (aD 2 lu.nd rfl .p))))
  (aq (.ad .dP (lD DI_In hr rfl (.aj .ff) (ah az)))
  (aq (.ad .dP (lD DI_Cell hr rfl (.f .ff .ff) .L))
  (aq (.ad (SW.st (mV (.o (.a 1) bG) (jz (.o (.i (.a 2)) ao)))) (.R n (af .ff (.f .ff .ff))))
  (aq (.ad (SW.st (mV (.o (.a 1) bG) (jz (Ji qK qK ao (.i (.a 2)) (.al (eM rfl p) ao))))) (aG o hr rfl (.f .ff (kn (.a 2) (jy ao) pB)) .L))
  (aq (.ad .dP (lD DI_Out hr rfl (.aj .ff) (ah az)))
  (.M oy)))))))
abbrev mO : Stmt := top 55
noncomputable def jm (b : Addr)(d a : List T->Option T)(c : List T->Option uM): FS :=
  (aH (bF 3 (.l d 1))
  (bx (zP (kE (du (au xR (ae 3) (fC .non))) (dB (ak a (.e (eT (.p 0 2)) (aF 2))))) (mj b c (ag (ae 0) (.p 3 2))) (fC .non))))
theorem pA : aK ["name","number",.cP,"by"] ["name","number",.cP] (ax mO) := by walk_at "sc"
theorem yK (F : eP K "read_gain" "read_gain" mO f fd)(hb : Binds K fd ["name","number",.cP] [])(hm : mg "read_gain" = some (.c f))(g : Def P w K mg base k "read_factor" 1 d)(i : Def P w K mg base k "are_names" 2 a)(DI_Gain : iT P w K mg base k "Gain" b 3 c):
  Def P w K mg base (k+1) "read_gain" 3 (cj 4 3 (jm b d a c)) :=
 bH F pA hb hm fun cdv A outer s H E hr => (aq (bu 3 pA.nd rfl .p (.h g (.a 1)))
  (.M (wV (SW.st (mV (bA Io (.a 3) oy (bw _)) (jz (di (.m i (.f (gd (af (.a 0) (.aj (.a 2)))) ao)))))) (lD DI_Gain hr rfl (af (.a 0) (.v 3 (.a 2))) (ah .L)) oy)))
abbrev jQ : Stmt := top 56
noncomputable def gU (a : Addr)(b : List T->Option T): FS :=
  (aH (G4 (bF 1 (.l b 0))
  Pm
  (Dp [(a, true)] (bx (fC .non)) L6))
  (bx (zP (kE (du (au uY (.j sL (.S 1)) (aF 99))) (du (au uY (.i br 1) (aF 12)))) (ae 1) (fC .non))))
theorem mS : aK ["text","by"] .gQ (ax jQ) := by walk_at "sc"
theorem tX (F : eP K "read_factor" "read_factor" jQ f fd)(hb : Binds K fd .gQ [])(hm : mg "read_factor" = some (.c f))(c : Def P w K mg base k "read_frac" 1 b)(d : By K a [(a, true)])(g : mg "NoFraction" = some (.c a))(q2 : mg "abs" = none)(h : mg "GREATEST_TOP" = some (.ag 99 j))(i : mg "GREATEST_BOTTOM" = some (.ag 12 l)):
  Def P w K mg base (k+1) "read_factor" 1 (cj 2 1 (gU a b)) :=
 bH F mS hb hm fun cdv A outer s H E hr => (aq (Oa (fun _ _ z => z) rfl rfl
  (aw (bu 1 mS.nd rfl .p (.h c (.a 0))))
  Of
  (Jd rfl g d (fun _ => (.M oy)) N5))
  (.M (wV (SW.st (mV (bA qK (aY sE rfl q2 rfl (.aj (.t (.a 1)))) (eM rfl h) (bw _)) (jz (bA qK (.t (.a 1)) (eM rfl i) (bw _))))) (.a 1) oy)))
theorem vo : (["word"] : List Str).Nodup := by decide +kernel
theorem nQ : (["sign",.cP] : List Str).Nodup := by decide +kernel
abbrev ou : Stmt := top 57
noncomputable def kz (h : Addr)(a : List T->Option T)(b : List T->Option uM): FS :=
  (aH (bF 2 (ak ig (.ac (.X (aX (ae 1)) (eh (.e (zP (dB (.e JE 0 .hD)) .gk (aF 1)) (.e sY 0 .hD)))))))
  (bx (zP (dB (ak a (.e (.Q (eT (bI 0)) (.aq (ae 2) (ae 1))) (.Q (.l cJ 2) (aF 1))))) (mj h b (.p 0 2)) (fC .non))))
theorem qM : aK ["name","words","terms"] ["name","words"] (ax ou) := by walk_at "sc"
theorem AL (F : eP K "read_sum" "read_sum" ou f fd)(hb : Binds K fd ["name","words"] [])(hm : mg "read_sum" = some (.c f))(i : Def P w K mg base k "are_names" 2 a)(DI_Sum : iT P w K mg base k "Sum" h 2 b)(l : mg "tuple" = none)(r : mg "len" = none):
  Def P w K mg base (k+1) "read_sum" 2 (cj 3 2 (kz h a b)) :=
 bH F qM hb hm fun cdv A outer s H E hr => (aq (bu 2 qM.nd rfl .p (.aM (.aj (bR (N' := ["word"]) (no := 1) (cap := []) rfl rfl .bG rfl .bF (cg (.a 1)) (.av vo) .cn (.u (eE (.f (wV (di (iw PySem.F.slot_str_startswith PySem.F.type_str_startswith P8 PJ (.a 0) bG)) (D8 zm ao) ao) (iw zbQ zbR HS Hu (.a 0) bG))))))))
  (aw (aV (wV (di (aG i hr rfl (af (.al (gd (.I 0)) (bR (N' := ["sign",.cP]) (no := 2) (cap := []) rfl rfl .bG rfl .bF (cg (.a 2)) (.u (eS rfl (.r nQ) .b9)) .cn (.u (.a 1)))) (.aj (.al (.i (.a 2)) ao))) .L)) (lD DI_Sum hr rfl (.v 0 (.a 2)) .L) oy))))
theorem tJ : (["word"] : List Str).Nodup := by decide +kernel
abbrev mL : Stmt := top 58
noncomputable def jj (b : List T->Option T): FS :=
  (bx (hU (au il (.l cJ 0) (ae 1)) (.j kA (.X .dr (.l b 0)))))
theorem yV : aK ["words","many"] ["words","many"] (ax mL) := by walk_at "sc"
theorem yI (F : eP K "are_names" "are_names" mL f fd)(hb : Binds K fd ["words","many"] [])(hm : mg "are_names" = some (.c f))(c : Def P w K mg base k "is_name" 1 b)(r : mg "len" = none)(a : mg "all" = none):
  Def P w K mg base (k+1) "are_names" 2 (cj 2 2 (jj b)) :=
 bH F yV hb hm fun cdv A outer s H E hr => (.M (ly (jS (gh hr.units) (.i (.a 0)) (.a 1) (bw _)) (qo (.ah (bR (N' := ["word"]) (no := 1) (cap := []) rfl rfl (aN rfl) rfl (bM rfl) .hB (.av tJ) .cn (.u (.h c (.a 0))))))))
theorem yA : (["sign"] : List Str).Nodup := by decide +kernel
abbrev qk : Stmt := top 59
def mZ : FS :=
  (bx (hU (.an 8) (.j kA (.X (sV (ae 0)) (.e qR 0 .z)))))
theorem CD : aK ["word"] ["word"] (ax qk) := by walk_at "sc"
theorem Cv (F : eP K "is_name" "is_name" qk f fd)(hb : Binds K fd ["word"] [])(hm : mg "is_name" = some (.c f))(r : mg "len" = none)(a : mg "all" = none)(b : mg "LONGEST_NAME" = some (.ag 8 d))(c : mg "LETTERS" = some (.str "abcdefghijklmnopqrstuvwxyz" g)):
  Def P w K mg base (k+1) "is_name" 1 (cj 1 1 (mZ)) :=
 bH F CD hb hm fun cdv A outer s H E hr => (.M (ly (A5 qK qK ao (.i (.a 0)) (eM rfl b)) (qo (.ah (bR (N' := ["sign"]) (no := 1) (cap := []) rfl rfl (aN rfl) rfl (bM rfl) (Je (.a 0)) (.av yA) .cn (.u (jS Im (.a 0) (IZ rfl c) rfl)))))))
abbrev jd : Stmt := top 60
noncomputable def me (v j c b h g i : Addr)(d l m o p : List T->Option T): FS :=
  (wj 1 (pK (CU 1 .dr (ai 2) (RO 1 (ny (dB (gF [(v, false), (j, false), (c, false), (b, false), (h, false), (g, true), (i, false)] (ae 2)))) (LM (Ez 1 (dJ [j, c, b, h] "name" (ae 2)) CV uJ) (Bp 1 (dJ [j, c, b, h] "name" (ae 2)) (fC .b4))) uJ))
  (zEnd 1 (fW .dr (ai 2) (fW (aX (cv [(v, d), (j, d), (c, l), (b, m), (h, o), (g, p)] "wants" (ae 2) ar)) (ai 3) (.G (au (qQ true) (ae 3) (ae 1)) fB))))))
theorem eK : aK ["parts","named","part","name"] ["parts"] (ax jd) := by walk_at "sc"
theorem rq (F : eP K "refuse_names" "refuse_names" jd f fd)(hb : Binds K fd ["parts"] [])(hm : mg "refuse_names" = some (.c f))(DM_wants : ∀a∈[(v, d), (j, d), (c, l), (b, m), (h, o), (g, p)], dH P w K mg base k a.1 "wants" 1 a.2)(n : ∀a∈[(v, false), (j, false), (c, false), (b, false), (h, false), (g, true), (i, false)], jX K g a.1 a.2)(q : mg "Out" = some (.c g))(u:∀C∈[j,c,b,h],eV K C/\bo K C "name")(q6:.cu):
  Def P w K mg base (k+1) "refuse_names" 1 (cj 4 1 (me v j c b h g i d l m o p)):=
 bH F eK hb hm fun cdv A outer s H E hr=>(Jh eK.nd rfl .p (ux (CK PassesOwn.never rfl .hB (aD 2 eK.nd rfl .p) (rX (QJ (jU (di (lB n rfl q6 rfl q (.a 2)))) (Jn (LD hr.units (pv 1) (dh u (.a 2)) Ga En) (rX (Jm hr.units (pv 1) (dh u (.a 2)) A4))) En)))
  (Em (aw (fJ PassesOwn.never rfl .hB (aD 2 eK.nd rfl .p) (aw (fJ PassesOwn.never rfl (cg (mT DM_wants hr (.a 2))) (aD 3 eK.nd rfl .p) (aw (.ay (bA (FF hr.units) (.a 3) (.a 1) rfl))))))))))
theorem n9:.cq:=.c
theorem oa:.cq:=.c
theorem og:.cq:=.c
abbrev iu:Stmt:=top 61
noncomputable def fS (v j c b h g i:Addr):FS:=
  (aH (bF 1 (.j cJ (.q (ae 0) (gF [(v,false),(j,true),(c,false),(b,false),(h,false),(g,false),(i,false)] (ae 0)))))
  (aH (bF 2 (.j cJ (.q (ae 0) (.t (c,true) (g,false)))))
  (aH (bF 3 (.j cJ (.q (ae 0) (.t (c,false) (g,true)))))
  (aH (dA (Dl (du (au zw (.l cJ 0) (aF 24))) (Dl (du (.a zw 2 4)) (Dl (du (.a zw 1 2)) (du (.a zw 3 2))))) fB bY)
  (dA (Dl (du (.a il 1 0)) (du (.a il 3 0))) fB bY)))))
theorem fz:aK ["parts","ins","cells","outs"] ["parts"] (ax iu):=by walk_at "sc"
theorem qe (F:eP K "refuse_counts" "refuse_counts" iu f fd)(hb:Binds K fd ["parts"] [])(hm:mg "refuse_counts" = some (.c f))(o:∀a∈[(v,false),(j,true),(c,false),(b,false),(h,false),(g,false),(i,false)],jX K j a.1 a.2)(d:∀a∈[(v,false),(j,false),(c,true),(b,false),(h,false),(g,false),(i,false)],jX K c a.1 a.2)(n:∀a∈[(v,false),(j,false),(c,false),(b,false),(h,false),(g,true),(i,false)],jX K g a.1 a.2)(x:mg "Cell" = some (.c c))(y:mg "In" = some (.c j))(q:mg "Out" = some (.c g))(q6:.cu)(r:.cF)(m:mg "MOST_ROWS" = some (.ag 24 t))(p:mg "MOST_CELLS" = some (.ag 4 u))(l:mg "MOST_LINES" = some (.ag 2 z)):
  Def P w K mg base (k+1) "refuse_counts" 1 (cj 4 1 (fS v j c b h g i)):=
 bH F fz hb hm fun cdv A outer s H E hr=>(aq (bu 1 fz.nd rfl .p (.x (fun _ _ _ _ _ _=>(aD 0 n9 rfl .p)) (.O o y)))
  (aq (bu 2 fz.nd rfl .p (.x (fun _ _ _ _ _ _=>(aD 0 oa rfl .p)) (.O d x)))
  (aq (bu 3 fz.nd rfl .p (.x (fun _ _ _ _ _ _=>(aD 0 og rfl .p)) (.O n q)))
  (aq (.ay (SW.st (pH (.L (.i (.a 0)) m) (pH (.L (.a 2) p) (pH (.L (.a 1) l) (oB (.L (.a 3) l)))))))
  (aw (.ay (SW.st (pH (.o (.a 1) ao) (oB (.o (.a 3) ao))))))))))
theorem vk:.cq:=.c
theorem nP:(["name","part","inner"]:List Str).Nodup:=.c
theorem vm:(["other","inner"]:List Str).Nodup:=.c
theorem vn:(["name","inner"]:List Str).Nodup:=.c
abbrev oo:Stmt:=top 62
noncomputable def ky (n:Nat)(v j c b h g i:Addr)(t:.gG)(d l m o p:.O):FS:=
  (aH (bF 1 (jE 1 [] .dr (ai 0) (dB (.aa (nY b h [(v,false),(j,false),(c,false),(b,true),(h,true),(g,false),(i,false)]) (eh (.e (fC (.ptr b)) (fC (.ptr h)))))) (.aq 0) (ae 0)))
  (aH (bF 2 (jE 2 [1] (jr (ae 1)) .bU aI (ae 0) (bq 1 [2] (aX (cv [(v,d),(j,d),(c,l),(b,m),(h,o),(g,p)] "wants" (ae 1) ar)) (ai 0) (du .cT) (ae 0))))
  (aH (bK 3 ar)
  (aH (bF 4 (pX 3 (mi t (.p 2 3))))
  (aH (dk (dB (ae 4)) (aH (eQ 3 (.l sN 4))
  (bF 4 (pX 3 (mi t (.p 2 3))))) n)
  (aH (.G .gN fB)
  (bx (bq 1 [1] (aX (ae 3)) (ai 0) aI (.c iY 1 0)))))))))
theorem gj:aK ["parts","inner","wanted","order","free"] ["parts"] (ax oo):=by walk_at "sc"
theorem AJ (n:Nat)(F:eP K "in_order" "in_order" oo f fd)(hb:Binds K fd ["parts"] [])(hm:mg "in_order" = some (.c f))(x:zA P w K mg base k "free_names" 2 t)(DM_wants:∀a∈[(v,d),(j,d),(c,l),(b,m),(h,o),(g,p)],dH P w K mg base k a.1 "wants" 1 a.2)(q:∀a∈[(v,false),(j,false),(c,false),(b,true),(h,true),(g,false),(i,false)],Bv K b h a.1 a.2)(y:mg "Gain" = some (.c b))(z:mg "Sum" = some (.c h))(u:∀C∈[j,c,b,h],eV K C/\bo K C "name")(q6:.cu)(B:mg "min" = none)(r:.cF):
  Def P w K mg base (k+1) "in_order" 1 (cj 5 1 (ky n v j c b h g i t d l m o p)):=
 bH F gj hb hm fun cdv A outer s H E hr=>(aq (bu 1 gj.nd rfl .dy (IY hr.units (N':=["part"]) (no:=1) (cap:=[]) rfl rfl .bG rfl .bF .hB (fun _ _ _ _ _ _=>(aD 0 vk rfl .p)) (.ai (di (aY (GN q) rfl q6 rfl (.v 0 (eE (.f (Ja rfl y) (Ja rfl z))))))) (fun _ _ _ _ _ _=>(dh u (.a 0))) .aU))
  (aq (Be 2 gj.nd rfl rfl hr.units (N':=["name","part","inner"]) (no:=2) (cap:=[1]) rfl rfl .bG rfl .bF (Bc (.a 1)) (.R (.r nP)) .ax .aU (fun _ _ _ _ _ _=>(bR (N':=["other","inner"]) (no:=1) (cap:=[2]) rfl rfl .bG rfl .bF (cg (mT DM_wants hr (.a 1))) (fun _ _ _ _ _ _=>(aD 0 vm rfl .p)) (.ai (bA (Ny hr.units) (.a 0) (.a 1) rfl)) .aU)))
  (aq (ee 3 gj.nd rfl .p aj)
  (aq (bu 4 gj.nd rfl .p (A7 3 (A8 x hr rfl (.v 2 (.a 3)) .L)))
  (aq (mU n PassesOwn.never (di (.a 4)) (aq (cZ 3 (pv 3) (aY (JP rfl) rfl B rfl (.I 4)))
  (aw (bu 4 gj.nd rfl .p (A7 3 (A8 x hr rfl (.v 2 (.a 3)) .L))))))
  (aq (.ay (bA DR (Lo 3 (.i (.a 3))) (aY JN rfl r zax (.I 1)) (bw _)))
  (.M (bR (N':=["name","inner"]) (no:=1) (cap:=[1]) rfl rfl (aN rfl) rfl (bM rfl) (cg (.a 3)) (fun _ _ _ _ _ _=>(aD 0 vn rfl .p)) .ax (fun _ _ _ _ _ _=>(lA hr.units (.a 1) (.a 0) .x))))))))))
theorem lK:(["name","others","order"]:List Str).Nodup:=.c
theorem qW:(["other","order"]:List Str).Nodup:=.c
abbrev kZ:Stmt:=top 63
noncomputable def iL:LQ:=
  (Dm (nZ 2 [1] (jr (ae 0)) .bU (kE (du (.c pY 0 2)) (dB .bm)) (uW (ae 0))))
theorem vJ:aK ["wanted","order"] ["wanted","order"] (ax kZ):=by walk_at "sc"
theorem tR (F:eP K "free_names" "free_names" kZ f fd)(hb:Binds K fd ["wanted","order"] [])(hm:mg "free_names" = some (.c f))(a:mg "all" = none):
  zA P w K mg base (k+1) "free_names" 2 (JW 2 2 (iL)):=
 J0 F vJ hb hm fun cdv A outer s H E hr=>(Lz (A9 (N':=["name","others","order"]) (no:=2) (cap:=[1]) rfl rfl .bG rfl .bF (Bc (.a 0)) (.R (.r lK)) (fun _ _ _ _ _ _=>(gC (SW.st (mV (bA (Ip hr.units) (.a 0) (.a 2) rfl) (jz (di (.ah (bR (N':=["other","order"]) (no:=1) (cap:=[2]) rfl rfl .bG rfl .bF (cg (.a 1)) (fun _ _ _ _ _ _=>(aD 0 qW rfl .p)) .ax (fun _ _ _ _ _ _=>(jS (Qk hr.units) (.a 0) (.a 1) rfl)))))))))) (fun _ _ _ _ _ _=>(SE.seo (.a 0)))))
abbrev mG:Stmt:=top 68
def jg:FS:=
  (aH (.G (au Fd (ae 1) (.l cJ 0)) (bx (.c br 0 1)))
  (bx (aF 0)))
theorem yS:aK [.bV,.ef] [.bV,.ef] (ax mG):=by walk_at "sc"
theorem yC (F:eP K "_law_cell" "_law_cell" mG f fd)(hb:Binds K fd [.bV,.ef] [])(hm:mg "_law_cell" = some (.c f))(r:.cF):
  Def P w K mg base (k+1) "_law_cell" 2 (cj 2 2 (jg)):=
 bH F yS hb hm fun cdv A outer s H E hr=>(aq (.ad (bA DR (.a 1) (.i (.a 0)) (bw _)) (.S 0 (.a 1)))
  (.M ao))
abbrev jN:Stmt:=top 69
noncomputable def gS:FS:=
  (aH (bK 2 ar)
  (aH (bF 3 (ae 0))
  (aH (fW (aX (ae 1)) (ai 4) (aH (eQ 2 (.c dU 3 4))
  (bF 3 (.c fK 3 4))))
  (.a1 2))))
theorem eY:aK [.ao,"_law_bases","_law_found","_law_left","_law_base"] .ep (ax jN):=by walk_at "sc"
theorem tU (F:eP K "_law_digits" "_law_digits" jN f fd)(hb:Binds K fd .ep [])(hm:mg "_law_digits" = some (.c f)):
  Def P w K mg base (k+1) "_law_digits" 2 (cj 5 2 (gS)):=
 bH F eY hb hm fun cdv A outer s H E hr=>(aq (ee 2 eY.nd rfl .p aj)
  (aq (bu 3 eY.nd rfl .p (.a 0))
  (aq (fJ PassesOwn.never rfl (cg (.a 1)) (aD 4 eY.nd rfl .p) (aq (cZ 2 (pv 2) (.h fF 3 4))
  (aw (bu 3 eY.nd rfl .p (.h eR 3 4)))))
  (.M (.a 2)))))
abbrev kU:Stmt:=top 70
noncomputable def iH:FS:=
  (aH (bK 2 ar)
  (aH (bF 3 (.Q (.a dU 0 2147483629) (aF 17)))
  (aH (fW (bQ (bI 1)) (ai 4) (aH (bF 3 (.i dU .eE 2147483647))
  (eQ 2 (au fK (au dU (au cL (ae 3) (ae 3)) (aF 2147483587)) (aF 3)))))
  (.a1 2))))
theorem fN:aK [.ao,.ed,"_law_found","_law_number",.ef] [.ao,.ed] (ax kU):=by walk_at "sc"
theorem vw (F:eP K "_law_mixed" "_law_mixed" kU f fd)(hb:Binds K fd [.ao,.ed] [])(hm:mg "_law_mixed" = some (.c f))(d:mg "range" = none):
  Def P w K mg base (k+1) "_law_mixed" 2 (cj 5 2 (iH)):=
 bH F fN hb hm fun cdv A outer s H E hr=>(aq (ee 2 fN.nd rfl .p aj)
  (aq (bu 3 fN.nd rfl .p (.al (.H fF 0) ao))
  (aq (fJ PassesOwn.never rfl (.ba 1) (aD 4 fN.nd rfl .p) (aq (bu 3 fN.nd rfl .p (aL fF (aL bg (.al (.H cX 3) (aL cX ao (.a 4))) ao) ao))
  (.ap 2 (aL eR (aL fF (aL cX (.a 3) (.a 3)) ao) ao))))
  (.M (.a 2)))))
theorem lJ:(["_law_number","_law_base"]:List Str).Nodup:=.c
abbrev kS:Stmt:=top 71
noncomputable def iG (a b:.O):FS:=
  (aH (.G (au il (.a dU 0 2) (aF 1)) (bx (ak a (ag (.a fK 0 2) (bI 1)))))
  (bx (bq 2 [] (hV (ag (ak b (.e (.a fK 0 2) (.l cJ 1))) (bI 1))) .bU aI (.c dU 0 1))))
theorem vI:aK .ep .ep (ax kS):=by walk_at "sc"
theorem vq (F:eP K "_law_drawn" "_law_drawn" kS f fd)(hb:Binds K fd .ep [])(hm:mg "_law_drawn" = some (.c f))(c:Def P w K mg base k "_law_digits" 2 a)(d:Def P w K mg base k "_law_mixed" 2 b)(x:mg "zip" = none)(r:.cF):
  Def P w K mg base (k+1) "_law_drawn" 2 (cj 2 2 (iG a b)):=
 bH F vI hb hm fun cdv A outer s H E hr=>(aq (.ad (bA (gh hr.units) (.H fF 0) ao (bw _)) (.m c (.f (.H eR 0) (.a 1))))
  (aw (aV (bR (N':=["_law_number","_law_base"]) (no:=2) (cap:=[]) rfl rfl .bG rfl .bF (qp rfl x (.f (.m d (.f (.H eR 0) (aY dr rfl r zax (.aj (.a 1))))) (.a 1))) (.R (.r lJ)) .ax (fun _ _ _ _ _ _=>(aL fF (.a 0) (.a 1)))))))
theorem qU:(["_law_j","_law_letters","_law_tail",.ef,"_law_at"]:List Str).Nodup:=.c
abbrev kW:Stmt:=top 72
noncomputable def iI (a:.O):FS:=
  (aH (bF 2 (fC .z))
  (aH (bF 3 (.Q (aF 1) (.a dU 0 8)))
  (aH (bF 4 (au dU (.a fK 0 8) (ae 3)))
  (aH (bF 5 (ak a .ea))
  (aH (bK 6 ar)
  (aH (fW (bQ (bI 1)) (ai 7) (aH (cU 8 1 [2,5,7,4] (bQ (bI 3)) (ai 0) aI .aR)
  (eQ 6 (au dG (fC .fw) (ae 8)))))
  (.a1 6)))))))
theorem dy:aK [.ao,.ed,"_law_letters","_law_size","_law_at","_law_tail","_law_names_here",.ef,"_law_signs"] [.ao,.ed] (ax kW):=by walk_at "sc"
theorem vy (F:eP K "_law_names" "_law_names" kW f fd)(hb:Binds K fd [.ao,.ed] [])(hm:mg "_law_names" = some (.c f))(c:.gu)(d:mg "range" = none)(q5:mg "int" = none):
  Def P w K mg base (k+1) "_law_names" 2 (cj 9 2 (iI a)):=
 bH F dy hb hm fun cdv A outer s H E hr=>(aq (bu 2 dy.nd rfl .dy bG)
  (aq (bu 3 dy.nd rfl .p (.al ao (.H fF 0)))
  (aq (bu 4 dy.nd rfl .dy (aL fF (.H eR 0) (.a 3)))
  (aq (bu 5 dy.nd rfl .dy (.m c (.f (.H eR 0) (aL Ir (gd (.aj ao)) (.a 3)))))
  (aq (ee 6 dy.nd rfl .p aj)
  (aq (fJ PassesOwn.never rfl (.ba 1) (aD 7 dy.nd rfl .dy) (aq (gQ dy.nd rfl rfl (N':=["_law_j","_law_letters","_law_tail",.ef,"_law_at"]) (no:=1) (cap:=[2,5,7,4]) rfl rfl .bG rfl .bF (.ba 3) (fun _ _ _ _ _ _=>(aD 0 qU rfl .p)) .ax (fun _ _ _ _ _ _=>(aO aP (.a 1) (aL fF (.al (.S 2 (.a 0)) (aL cX (.a 3) (bU rF rfl q5 rfl (.aj (jS (gh hr.units) (.a 0) (.a 4) (bw _)))))) ao) .x)))
  (.ap 6 (.a0 (.a 8)))))
  (.M (.a 6))))))))
abbrev mH:Stmt:=top 73
noncomputable def md (n:Nat):FS:=
  (aH (uU 2 3 (ag (.l sL 0) (bI 1)))
  (aH (dk (du (.a xS 3 0)) (.I 2 3) n)
  (bx (eh (.e (.c fK 0 2) (.c fK 1 2))))))
theorem lq:aK ["_law_top","_law_bottom",.hR,.fU] ["_law_top","_law_bottom"] (ax mH):=by walk_at "sc"
theorem yE (n:Nat)(F:eP K "_law_frac" "_law_frac" mH f fd)(hb:Binds K fd ["_law_top","_law_bottom"] [])(hm:mg "_law_frac" = some (.c f))(q2:mg "abs" = none):
  Def P w K mg base (k+1) "_law_frac" 2 (cj 4 2 (md n)):=
 bH F lq hb hm fun cdv A outer s H E hr=>(aq (uw rfl lq.nd rfl rfl .f rfl rfl (.f (aY sE rfl q2 rfl (.I 0)) (.a 1)) rfl)
  (aq (mU n PassesOwn.never (.y (.a 3) ao) (aw (uw rfl lq.nd rfl rfl .f rfl rfl (.f (.a 3) (.h fF 2 3)) rfl)))
  (.M (eE (.f (.h eR 0 2) (.h eR 1 2))))))
abbrev kT:Stmt:=top 74
noncomputable def fu (b:.O):FS:=
  (aH (.G (.i il (.S 1) 0) (bx (eh (ag (fC (.str "gain")) (ag (ae 0) (.e (ak b (ag (.i Kc (.X 1) 99) (.ac (.Q (aF 1) (.a br 1 2))))) (.aB (.a br 1 3))))))))
  (aH (bK 3 ar)
  (aH (fW (aX .eD) (ai 4) (eQ 3 (eh (.e (au br (eT (ag (aF 1) (.ac .gk))) (.a dU 4 2)) (.aB (.a fK 4 2))))))
  (bx (eh (ag (fC (.str "sum")) (.c 0 (.l ig 3))))))))
theorem jR:aK ["_law_name",.dH,"_law_some","_law_terms","_law_digit"] ["_law_name",.dH,"_law_some"] (ax kT):=by walk_at "sc"
theorem vt (F:eP K "_law_inner" "_law_inner" kT f fd)(hb:Binds K fd ["_law_name",.dH,"_law_some"] [])(hm:mg "_law_inner" = some (.c f))(d:Def P w K mg base k "_law_frac" 2 b)(r:.cF)(l:mg "tuple" = none):
  Def P w K mg base (k+1) "_law_inner" 3 (cj 5 3 (fu b)):=
 bH F jR hb hm fun cdv A outer s H E hr=>(aq (.ad (.o (.h 1) ao) (eE (af bG (af (.a 0) (af (.m d (af (aL Iu (.h 1) ao) (.aj (.al ao (.h 1))))) (.aj (aO aP (.a 2) (aL fF (.h 1) (.i (.a 2))) .x)))))))
  (aq (ee 3 jR.nd rfl .p aj)
  (aq (fJ PassesOwn.never rfl (cg (kn (.a 1) (jy ao) (jy (.al ao (.h 1))))) (aD 4 jR.nd rfl .p) (.ap 3 (eE (.f (aO aP (gd (af ao (.aj (D8 zm ao)))) (.H fF 4) .x) (aO aP (.a 2) (aL fF (.H eR 4) (aY dr rfl r zax (.I 2))) .x)))))
  (.M (eE (af bG (.v 0 (.aM (.I 3)))))))))
theorem qV:(["_law_name"]:List Str).Nodup:=.c
abbrev kX:Stmt:=top 75
noncomputable def iJ (g a b h:.O):FS:=
  (aH (bF 1 (ak g (.e (ae 0) (aF 0))))
  (aH (kh (ak a .ck) .gd)
  (aH (bF 6 (ak b (.a6 g)))
  (aH (bF 7 (qE (ae 6) cP (cT (.y 3))))
  (aH (cU 8 1 [] (aX .eO) (ai 0) aI .et)
  (aH (fW (bQ (bI 5)) (ai 9) (aH (bF 10 (ak a (.v g)))
  (aH (eQ 8 (ak h (ag (au br (ae 6) (.Q (.y 3) (ae 9))) (.p 10 7))))
  (bF 7 (.Q (ae 7) (eT (.ac (au br (ae 6) (au aT (.y 3) (ae 9))))))))))
  (aH (bF 11 (ak a (.V g)))
  (aH (fW (bQ (bI 3)) (ai 9) .bP)
  (aH (fW (bQ (.ac (.a aT 4 1))) (ai 9) .cz)
  (.a1 8))))))))))
theorem bz:aK [.bV,.ao,"_law_ins","_law_cells","_law_outs","_law_inner_here","_law_names_here","_law_some",.hQ,.ef,.dH,"_law_ends"] .fO (ax kX):=by walk_at "sc"
theorem vz (F:eP K "_law_parts" "_law_parts" kX f fd)(hb:Binds K fd .fO [])(hm:mg "_law_parts" = some (.c f))(j:Def P w K mg base k "_law_cell" 2 g)(c:.gu)(i:Def P w K mg base k "_law_names" 2 b)(l:Def P w K mg base k "_law_inner" 3 h)(d:mg "range" = none)(r:.cF):
  Def P w K mg base (k+1) "_law_parts" 1 (cj 12 1 (iJ g a b h)):=
 bH F bz hb hm fun cdv A outer s H E hr=>(aq (bu 1 bz.nd rfl .p (.m j (.v 0 ao)))
  (aq (oz (.m c (.v 1 (gd (af ao (af ao (af ao (.aj ao))))))) (Jb rfl (aZ (.aR 2) (aZ (.aR 3) (.ai (.aR 4) (.aR 5)))) (bh (bh .b9))))
  (aq (bu 6 bz.nd rfl .p (.m i (.f (.ar 0 ao) (.al (aL bg (.H bg 2) (.a 3)) (.a 5)))))
  (aq (bu 7 bz.nd rfl .p (kn (.a 6) pB (jy (.al (.H bg 2) (.a 3)))))
  (aq (gQ bz.nd rfl rfl (N':=["_law_name"]) (no:=1) (cap:=[]) rfl rfl .bG rfl .bF (cg (kn (.a 6) pB (jy (.H bg 2)))) (fun _ _ _ _ _ _=>(aD 0 qV rfl .p)) .ax (fun _ _ _ _ _ _=>(eE (.f bG (.a 0)))))
  (aq (fJ PassesOwn.never rfl (.ba 5) (.aR 9) (aq (bu 10 bz.nd rfl .p (.m c (.f (.al (.ar 0 (aL bg ao (.a 9))) (aL cX ao (.a 9))) (gd (af ao (af ao (af ao (af ao (af ao (af ao (.aj ao)))))))))))
  (aq (cZ 8 (pv 8) (.R l (af (aO aP (.a 6) (.al (aL bg (.H bg 2) (.a 3)) (.a 9)) .x) (.v 10 (.a 7)))))
  (aw (bu 7 bz.nd rfl .p (.al (.a 7) (gd (.aj (.S 6 (aL bg (aL bg (aL bg (.a 2) ao) (.a 3)) (.a 9)))))))))))
  (aq (bu 11 bz.nd rfl .p (.m c (.f (.ar 0 ao) (aL Ir (gd (.aj (aY dr rfl r zax (af (.a 7) aj)))) (.al (.h bg 3 4) ao)))))
  (aq (fJ PassesOwn.never rfl (.ba 3) (.aR 9) (.ap 8 (eE (af bG (.f (.S 6 (.al (.H bg 2) (.a 9))) (.S 7 (aO aP (.a 11) (.a 9) .x)))))))
  (aq (fJ PassesOwn.never rfl (fA rfl d (.aj (.al (.a 4) ao))) (.aR 9) (.ap 8 (eE (.f bG (.S 7 (aO aP (.a 11) (.h bg 3 9) .x))))))
  (.M (.a 8)))))))))))
theorem tF:(["_law_k"]:List Str).Nodup:=.c
abbrev mJ:Stmt:=top 76
noncomputable def jh (a:.O):FS:=
  (aH (bK 2 ar)
  (aH (fW (hV (.e (ae 0) (ak a (ag (ae 1) (.ac (.X (bQ (ag (.l cJ 0) ar)) (.a aT 0 1))))))) (bS (.a 3 4)) (EZ 2 (ae 4) (ae 3)))
  (.a1 2)))
theorem iP:aK [.hQ,.ao,"_law_laid_here","_law_part","_law_place"] [.hQ,.ao] (ax mJ):=by walk_at "sc"
theorem yG (F:eP K "_law_laid" "_law_laid" mJ f fd)(hb:Binds K fd [.hQ,.ao] [])(hm:mg "_law_laid" = some (.c f))(c:.gu)(x:mg "zip" = none)(d:mg "range" = none)(r:.cF):
  Def P w K mg base (k+1) "_law_laid" 2 (cj 5 2 (jh a)):=
 bH F iP hb hm fun cdv A outer s H E hr=>(aq (ee 2 iP.nd rfl .p aj)
  (aq (fJ PassesOwn.never rfl (qp rfl x (af (.a 0) (.aj (aG c hr rfl (.f (.a 1) (bR (N':=["_law_k"]) (no:=1) (cap:=[]) rfl rfl .bG rfl .bF (fA rfl d (af (aY dr rfl r zax (.I 0)) aj)) (fun _ _ _ _ _ _=>(aD 0 tF rfl .p)) (fun _ _ _ _ _ _=>bT) (fun _ _ _ _ _ _=>(aL bg (.a 0) ao)))) .L)))) (.ak (aD 3 iP.nd rfl .p) (aD 4 iP.nd rfl .p)) (aw (FW 2 (pv 2) (.a 4) (.a 3))))
  (.M (.a 2))))
abbrev gO:Stmt:=top 77
noncomputable def jZ:FS:=
  (aH (.G (.i il .cY 1) (bx (ak lM (.ac .eU))))
  (bx (.ao (ak lM (.ac .eU)) (.j lM .cY))))
theorem pz:aK ["_law_one"] ["_law_one"] (ax gO):=by walk_at "sc"
theorem oZ (F:eP K "_law_frac_text" "_law_frac_text" gO f fd)(hb:Binds K fd ["_law_one"] [])(hm:mg "_law_frac_text" = some (.c f))(a:mg "str" = none):
  Def P w K mg base (k+1) "_law_frac_text" 1 (cj 1 1 (jZ)):=
 bH F pz hb hm fun cdv A outer s H E hr=>(aq (.ad (.o (.h 0) ao) (bU sG rfl a rfl (.aj (.h 0))))
  (.M (.al (aL bg (bU sG rfl a rfl (.aj (.h 0))) bG) (bU sG rfl a rfl (.aj (.h 0))))))
theorem nO:(["_law_sign","_law_name"]:List Str).Nodup:=.c
abbrev om:Stmt:=top 78
noncomputable def ku (a:.O):FS:=
  (aH (.G (au il .eU (fC (.str "gain"))) (bx (.Q (au aT (au aT (au aT (au aT (fC (.str "gain ")) .cY) (fC (.str " "))) (ak a (.ac (.a br 0 2)))) (fC (.str " "))) (.a br 0 3))))
  (aH (.G (au il .eU (fC (.str "sum"))) (bx (.Q (au aT (fC (.str "sum ")) .cY) (au dG (fC .fw) (.aq (.a br 0 2) .bI)))))
  (bx (au dG (fC (.str " ")) (ae 0)))))
theorem A2:.M .cG om:=by walk_at "sc"
theorem AI (F:eP K "_law_row" "_law_row" om f fd)(hb:Binds K fd .cG [])(hm:mg "_law_row" = some (.c f))(b:Def P w K mg base k "_law_frac_text" 1 a)(q5:mg "int" = none):
  Def P w K mg base (k+1) "_law_row" 1 (cj 1 1 (ku a)):=
 bH F A2 hb hm fun cdv A outer s H E hr=>(aq (.ad (.o (.h 0) bG) (.al (aL bg (aL bg (aL bg (aL bg bG (.h 0)) bG) (.U b (.h 0))) bG) (.h 0)))
  (aq (dQ (.o (.h 0) bG) (aw (aV (aL bg (.al bG (.h 0)) (.a0 (bR (N':=["_law_sign","_law_name"]) (no:=2) (cap:=[]) rfl rfl .bG rfl .bF (cg (.h 0)) (.R (.r nO)) .ax (fun _ _ _ _ _ _=>(aL bg (aO aP (gd (af bG (.aj bG))) (bU rF rfl q5 rfl (.aj (jS pe (.a 0) ao (bw _)))) .x) (.a 1)))))))) bO)
  (.M (.a0 (.a 0)))))
theorem tH:(.cG:List Str).Nodup:=.c
abbrev mK:Stmt:=top 79
def ji (a:.O):FS:=
  (bx (au dG (fC (.str "\n")) (.X .dr (.l a 0))))
theorem yU : aK .eq .eq (ax mK) := by walk_at "sc"
theorem yH (F : eP K "_law_text" "_law_text" mK f fd)(hb : Binds K fd .eq [])(hm : mg "_law_text" = some (.c f))(b : Def P w K mg base k "_law_row" 1 a):
  Def P w K mg base (k+1) "_law_text" 1 (cj 1 1 (ji a)) :=
 bH F yU hb hm fun cdv A outer s H E hr => (.M (.a0 (bR (N' := .cG) (no := 1) (cap := []) rfl rfl (aN rfl) rfl (bM rfl) .hB (.av tH) .cn (.u (.h b (.a 0))))))
abbrev kY : Stmt := top 80
noncomputable def iK (a b : List T->Option T): FS :=
  (aH (bF 1 (.aa a (eT (.e (aF 199) (aF 12)))))
  (bx (ak b (.e (.i Kc (.S 1) 99) (.Q (aF 1) (.X 1))))))
theorem nR : aK [.ao,.dH] ["_law_cell_here"] (ax kY) := by walk_at "sc"
theorem vA (F : eP K "_law_value" "_law_value" kY f fd)(hb : Binds K fd ["_law_cell_here"] [])(hm : mg "_law_value" = some (.c f))(c : Def P w K mg base k "_law_drawn" 2 a)(d : Def P w K mg base k "_law_frac" 2 b):
  Def P w K mg base (k+1) "_law_value" 1 (cj 2 1 (iK a b)) :=
 bH F nR hb hm fun cdv A outer s H E hr => (aq (bu 1 nR.nd rfl .p (.m c (.v 0 (gd (af ao (.aj ao))))))
  (.M (aG d hr rfl (.f (aL Iu (.t (.a 1)) ao) (.al ao (.t (.a 1)))) .L)))
abbrev jO : Stmt := top 81
noncomputable def gT (b : List T->Option T): FS :=
  (aH (bF 3 (.Q (au cL (au cL (.S 1) .eU) (.aX 2)) (au cL (au cL (.S 2) (.i br 1)) .cY)))
  (bx (ak b (.e (ae 3) (au cL (au cL (.X 1) .cY) (.aX 2))))))
theorem mR : aK [.hR,"_law_by",.fU,"_law_top"] [.hR,"_law_by",.fU] (ax jO) := by walk_at "sc"
theorem tV (F : eP K "_law_summed" "_law_summed" jO f fd)(hb : Binds K fd [.hR,"_law_by",.fU] [])(hm : mg "_law_summed" = some (.c f))(d : Def P w K mg base k "_law_frac" 2 b):
  Def P w K mg base (k+1) "_law_summed" 3 (cj 4 3 (gT b)) :=
 bH F mR hb hm fun cdv A outer s H E hr => (aq (bu 3 mR.nd rfl .p (.al (aL cX (aL cX (.t (.a 1)) (.t (.a 0))) .ff) (aL cX (aL cX .ff (.t (.a 1))) (.t (.a 0)))))
  (.M (aG d hr rfl (.v 3 (aL cX (aL cX (.t (.a 1)) (.t (.a 0))) .ff)) .L)))
theorem gG : ([.hR,.fU,"_law_by"] : List Str).Nodup := by decide +kernel
abbrev gc : Stmt := top 82
noncomputable def eB (a : List T->Option T): FS :=
  (aH (bK 3 ar)
  (aH (fW (hV (.p 0 2)) (bS (.a 4 5)) (eQ 3 (bq 2 [1] (hV (.p 4 5)) .bU aI (ak a (ag (ae 0) (.p 2 1))))))
  (.a1 3)))
theorem dY : aK ["_law_rows","_law_by","_law_others","_law_found","_law_row_here","_law_more"] .gc (ax gc) := by walk_at "sc"
theorem nB (F : eP K "_law_rows_summed" "_law_rows_summed" gc f fd)(hb : Binds K fd .gc [])(hm : mg "_law_rows_summed" = some (.c f))(b : Def P w K mg base k "_law_summed" 3 a)(x : mg "zip" = none):
  Def P w K mg base (k+1) "_law_rows_summed" 3 (cj 6 3 (eB a)) :=
 bH F dY hb hm fun cdv A outer s H E hr => (aq (ee 3 dY.nd rfl .p aj)
  (aq (fJ PassesOwn.never rfl (qp rfl x (.v 0 (.a 2))) (.ak (aD 4 dY.nd rfl .p) (aD 5 dY.nd rfl .p)) (aw (cZ 3 (pv 3) (bR (N' := [.hR,.fU,"_law_by"]) (no := 2) (cap := [1]) rfl rfl .bG rfl .bF (qp rfl x (.v 4 (.a 5))) (.u (eS rfl (.r gG) .b9)) .cn (.u (.R b (af (.a 0) (.v 2 (.a 1)))))))))
  (.M (.a 3))))
abbrev mI : Stmt := top 83
noncomputable def qz : FS :=
  (bx (L4 (eT (ag (fC (.str "in")) (ag (fC (.str "cell")) (ag (fC (.str "out")) (.e (fC (.str "gain")) (fC (.str "sum"))))))) .eU))
theorem yT : aK .cG .cG (ax mI) := by walk_at "sc"
theorem yF (F : eP K "_law_kind" "_law_kind" mI f fd)(hb : Binds K fd .cG [])(hm : mg "_law_kind" = some (.c f)):
  Def P w K mg base (k+1) "_law_kind" 1 (cj 1 1 (qz)) :=
 bH F yT hb hm fun cdv A outer s H E hr => (.M (FQ (gd (af bG (af bG (af bG (af bG (.aj bG)))))) (.t (.a 0))))
theorem lR : (.cG : List Str).Nodup := by decide +kernel
theorem lS : (.cG : List Str).Nodup := by decide +kernel
abbrev gb : Stmt := top 84
noncomputable def eA (a : List T->Option T): FS :=
  (aH (cU 1 1 [] .dr (ai 0) (du (au zw (.l a 0) (aF 2))) (ae 0))
  (aH (cU 2 1 [] .dr (ai 0) (du (au Fd (.l a 0) (aF 3))) (ae 0))
  (bx (.Q (zQ (bI 1)) (ae 2)))))
theorem fH : aK ["_law_laid_here","_law_last","_law_first"] .eq (ax gb) := by walk_at "sc"
theorem nA (F : eP K "_law_other_order" "_law_other_order" gb f fd)(hb : Binds K fd .eq [])(hm : mg "_law_other_order" = some (.c f))(b : Def P w K mg base k "_law_kind" 1 a)(y : mg "list" = none)(c : mg "reversed" = none):
  Def P w K mg base (k+1) "_law_other_order" 1 (cj 3 1 (eA a)) :=
 bH F fH hb hm fun cdv A outer s H E hr => (aq (gQ fH.nd rfl rfl (N' := .cG) (no := 1) (cap := []) rfl rfl .bG rfl .bF .hB (.av lR) (.u (gC (bA pe (.h b (.a 0)) ao (bw _)))) (.u (.a 0)))
  (aq (gQ fH.nd rfl rfl (N' := .cG) (no := 1) (cap := []) rfl rfl .bG rfl .bF .hB (.av lS) (.u (gC (bA DR (.h b (.a 0)) ao (bw _)))) (.u (.a 0)))
  (.M (.al (CF rfl rfl c rfl y (.I 1)) (.a 2)))))
theorem nz : ([.ef,.bV,"_law_start"] : List Str).Nodup := by decide +kernel
abbrev gN : Stmt := top 85
noncomputable def jY (g l : List T->Option T): FS :=
  (bx (bq 1 [0, 1] (bQ (bI 2)) (ai 0) aI (.j l (.Q (ak g (.c 1 (au aT (ae 2) (ae 0)))) (.B 48271 0)))))
theorem pw : aK .hq .hq (ax gN) := by walk_at "sc"
theorem oY (F : eP K "_law_drawn_row" "_law_drawn_row" gN f fd)(hb : Binds K fd .hq [])(hm : mg "_law_drawn_row" = some (.c f))(j : Def P w K mg base k "_law_cell" 2 g)(t : Def P w K mg base k "_law_value" 1 l)(d : mg "range" = none):
  Def P w K mg base (k+1) "_law_drawn_row" 3 (cj 3 3 (jY g l)) :=
 bH F pw hb hm fun cdv A outer s H E hr => (aw (aV (bR (N' := [.ef,.bV,"_law_start"]) (no := 1) (cap := [0, 1]) rfl rfl .bG rfl .bF (.ba 2) (.av nz) .cn (.u (.U t (.al (.ar 1 (aL bg (.a 2) (.a 0))) (aL cX ao (.a 0))))))))
end
end My
set_option maxHeartbeats 4000000
namespace My
open PySem PySem.Spec PyProof.Rows L2 TM
variable {K : PySem.W.Frag}
theorem HU : ([.ef,.bV,"_law_cells"] : List Str).Nodup := by decide +kernel
theorem HV : (["_law_turn",.bV,.ef,"_law_ins"] : List Str).Nodup := by decide +kernel
theorem HW : ([.ef,"_law_wiring","_law_states","_law_inputs"] : List Str).Nodup := by decide +kernel
abbrev wU : Stmt := top 86
noncomputable def C8 (i : Addr)(u g v n l o m x : List T->Option T)(p c b : List T->Option T)(h : List T->Option uM): FS :=
  (aH (bF 1 (ak v (.e (.l u 0) (.aa g (aF 3)))))
  (aH (bF 2 (mj i h (.ac (.l n 1))))
  (aH (kh (eh (.e (cv [(i, p)] "ins" (ae 2) ar) (ak cJ (.ac (cv [(i, c)] "cell_names" (ae 2) ar))))) (wu (.a 3 4)))
  (aH (bF 5 (au dU (.aa g (aF 14)) (aF 6)))
  (aH (bF 6 (.j l (.aa g (aF 15))))
  (aH (bF 7 (bq 1 [0, 4] .hC (ai 0) aI (.aG o)))
  (aH (bK 8 ar)
  (aH (fW .hC (ai 9) (eQ 8 (bq 1 [0, 9, 3] (bQ (bI 5)) (ai 0) aI (ak o (ag (ae 1) (ag (.Q (au aT (aF 24) (.B 20 2)) (.B 2 0)) (bI 3)))))))
  (aH (cU 10 1 [2, 7, 8] .hC (ai 0) aI (.aK (i, b)))
  (aH (bF 11 (au br (ak m (ag (eT (.ac (.S 7))) (.e (ae 6) (eT (.ac (.aX 7)))))) (aF 0)))
  (aH (bF 12 (cv [(i, b)] "run" (ae 2) (.e (ae 11) (ak m (ag (.S 8) (ag (ae 6) (.ac (.aX 8))))))))
  (aH (.G (au xS (.S 12) (ak m (ag (.aF 0) (.e (ae 6) (au br (.aX 10) (aF 0)))))) (bx (fC .U)))
  (aH (.G (au xS (.aX 12) (au br (ak m (ag (eT (.ac (.aF 1))) (.e (ae 6) (eT (.ac (au br (.aX 10) (aF 1))))))) (aF 0))) (bx (fC .U)))
  (aH (fW (bQ (.ac (.a aT 5 1))) (ai 13) (aH (bF 14 (cv [(i, b)] "run" (ae 2) (.e (.S 7) (qE (.S 8) cP (cT (ae 13))))))
  (aH (bF 15 (cv [(i, b)] "run" (ae 2) (.e (.aX 14) (qE (.S 8) (cT (ae 13)) cP))))
  (dA (Dl (du (au xS (.Q (.S 14) (.S 15)) (.aF 0))) (du (au xS (.aX 15) (.aF 1)))) (bx (fC .U)) bY))))
  (bx (au il (cv [(i, b)] "run" (mj i h (.ac (.j n (.l x 1)))) (.e (.aX 7) (.aX 8))) (.aX 10)))))))))))))))))
theorem fI : aK [.bV,"_law_laid_here","_law_wiring","_law_ins","_law_cells","_law_turns","_law_by","_law_states","_law_inputs",.ef,"_law_runs","_law_state","_law_found","_law_cut","_law_first","_law_second"] .fO (ax wU) := by walk_at "sc"
theorem MU (F : eP K "law" "law" wU f fd)(B : Def P w K mg base k "_law_parts" 1 u)(j : Def P w K mg base k "_law_cell" 2 g)(C : Def P w K mg base k "_law_laid" 2 v)(y : Def P w K mg base k "_law_text" 1 n)(t : Def P w K mg base k "_law_value" 1 l)(z : Def P w K mg base k "_law_drawn_row" 3 o)(q : Def P w K mg base k "_law_rows_summed" 3 m)(D : Def P w K mg base k "_law_other_order" 1 x)(DM_ins : ∀a∈[(i, p)], dH P w K mg base k a.1 "ins" 1 a.2)(DM_cell_names : ∀a∈[(i, c)], dH P w K mg base k a.1 "cell_names" 1 a.2)(DM_run : ∀a∈[(i, b)], dH P w K mg base k a.1 "run" 3 a.2)(DI_Wiring : iT P w K mg base k "Wiring" i 1 h)(r : mg "len" = none)(d : mg "range" = none):
  iS P w K mg base uP (k+1) f fd .fO (spT K 1 (cj 16 1 (C8 i u g v n l o m x p c b h))) :=
 J5 F fI fun cdv A outer s H E hr => (aq (bu 1 fI.nd rfl .p (.m C (.f (.U B (.a 0)) (.ar 0 ao))))
  (aq (bu 2 fI.nd rfl .dy (lD DI_Wiring hr rfl (.aj (.h y (.a 1))) (ah az)))
  (aq (oz (eE (.f (mT DM_ins hr (.a 2)) (aY dr rfl r zax (.aj (mT DM_cell_names hr (.a 2)))))) (Jb rfl (.ai (aD 3 fI.nd rfl .dy) (aD 4 fI.nd rfl .dy)) .b9))
  (aq (bu 5 fI.nd rfl .p (aL fF (.m j (.v 0 ao)) ao))
  (aq (bu 6 fI.nd rfl .p (.U t (.m j (.v 0 ao))))
  (aq (bu 7 fI.nd rfl .dy (bR (N' := [.ef,.bV,"_law_cells"]) (no := 1) (cap := [0, 4]) rfl rfl .bG rfl .bF (fA rfl d (.aj ao)) (.av HU) .cn (.u (.R z (af (.a 1) (.f (aL bg ao (aL cX ao (.a 0))) (.a 2)))))))
  (aq (ee 8 fI.nd rfl .dy aj)
  (aq (fJ PassesOwn.never rfl (fA rfl d (.aj ao)) (aD 9 fI.nd rfl .dy) (aw (cZ 8 (pv 8) (bR (N' := ["_law_turn",.bV,.ef,"_law_ins"]) (no := 1) (cap := [0, 9, 3]) rfl rfl .bG rfl .bF (.ba 5) (.av HV) .cn (.u (.R z (af (.a 1) (.f (.al (aL bg ao (aL cX ao (.a 2))) (aL cX ao (.a 0))) (.a 3)))))))))
  (aq (gQ fI.nd rfl rfl (N' := [.ef,"_law_wiring","_law_states","_law_inputs"]) (no:=1) (cap:=[2,7,8]) rfl rfl .bG rfl .bF (fA rfl d (.aj ao)) (fun _ _ _ _ _ _=>(aD 0 HW rfl .p)) .ax (fun _ _ _ _ _ _=>(iQ DM_run hr (.a 1) (.f (.S 2 (.a 0)) (.S 3 (.a 0))) (fun τ ts τ' e=>congrArg (· + 1) .fJ))))
  (aq (bu 11 fI.nd rfl .p (aO aP (.R q (af (gd (.aj (.h 7))) (.v 6 (gd (.aj (.h 7)))))) ao .x))
  (aq (bu 12 fI.nd rfl .p (iQ DM_run hr (.a 2) (.v 11 (.R q (af (.h 8) (af (.a 6) (.aj (.h 8)))))) (fun τ ts τ' e=>congrArg (· + 1) .fJ)))
  (aq (dQ (bA (qL hr.units) (.h 12) (.R q (af .eC (.v 6 .eC))) (bw _)) (.M A4) bO)
  (aq (dQ (bA (qL hr.units) (.h 12) (aO aP (.R q (af (gd (.aj .eC)) (.v 6 (gd (.aj .eC))))) ao .x) (bw _)) (.M A4) bO)
  (aq (fJ PassesOwn.never rfl (fA rfl d (.aj (.al (.a 5) ao))) (aD 13 fI.nd rfl .p) (aq (bu 14 fI.nd rfl .p (iQ DM_run hr (.a 2) (.f (.h 7) (kn (.h 8) pB (jy (.a 13)))) (fun τ ts τ' e=>congrArg (· + 1) .fJ)))
  (aq (bu 15 fI.nd rfl .p (iQ DM_run hr (.a 2) (.f (.h 14) (kn (.h 8) (jy (.a 13)) pB)) (fun τ ts τ' e=>congrArg (· + 1) .fJ)))
  (aw (.ad (SW.st (pH (.y (.al (.h 14) (.h 15)) .eC) (oB (.y (.h 15) .eC)))) A4)))))
  (aw (aV (jS (gh hr.units) (iQ DM_run hr (lD DI_Wiring hr rfl (.aj (.h y (aG D hr rfl (.I 1) (ah az)))) (ah az)) (.f (.h 7) (.h 8)) (fun τ ts τ' e=>congrArg (· + 1) .fJ)) (.h 10) (bw _))))))))))))))))))
end My
namespace Qm
abbrev jW (a b:Int):Prop:=Int.gcd a b=1
theorem xC {a b:Int}(h:Nat.Coprime a.natAbs b.natAbs):jW a b:=h
theorem jW.symm {a b:Int}(h:jW a b):jW b a:=by unfold jW;rw [Int.gcd_comm];exact h
theorem jW.mulL {a b c:Int}(h:jW a c)(h':jW b c):jW (a*b) c:=xC (by rw [zaZ];exact Nat.Coprime.mul_left h h')
theorem jW.mulR {a b c:Int}(h:jW c a)(h':jW c b):jW c (a*b):=xC (by rw [zaZ];exact Nat.Coprime.mul_right h h')
theorem jW.dvdL {a b c:Int}(h:jW b c)(d:a∣b):jW a c:=xC (Nat.Coprime.coprime_dvd_left (Int.natAbs_dvd_natAbs.mpr d) h)
theorem jW.dvdR {a b c:Int}(h:jW c b)(d:a∣b):jW c a:=xC (Nat.Coprime.coprime_dvd_right (Int.natAbs_dvd_natAbs.mpr d) h)
theorem jW.addL {a b c:Int}(h:jW a c):jW (a+b*c) c:=by unfold jW;rw [Int.gcd_add_mul_right_left];exact h
theorem split {a b:Int}(h:b≠0):∃x y:Int,a=.d4*x/\b=.d4*y/\jW x y/\(Int.gcd a b:Int)≠0:=by
 have M:.d4≠0:=by
  intro z
  have:Int.gcd a b=0:=.e
  rw [Int.gcd_eq_zero_iff] at this
  exact h this.2
 obtain⟨x,hx⟩:=zbS a b
 obtain⟨y,R⟩:=zby a b
 refine⟨x,y,hx,R,?_,M⟩
 have e:Int.gcd a b=Int.gcd a b*Int.gcd x y:=by
  have:=zce .d4 x y
  rw [<- hx,<- R] at this
  simpa using this
 have hp:0<Int.gcd a b:=.e
 have:=Nat.eq_of_mul_eq_mul_left hp (show Int.gcd a b*Int.gcd x y=Int.gcd a b*1 by omega)
 exact this
theorem fT {a g x:Int}(h:a=g*x)(M:g≠0):a.fdiv g=x:=by rw [h];exact Int.mul_fdiv_cancel_left x M
theorem NR {a b c d:Int}(hb:0<b)(hd:0<d)(h1:jW a b)(h2:jW c d)(s top f:Int)(es:s=Int.gcd b d)(p:top=a*d.fdiv s+c*b.fdiv s)(o:f=Int.gcd top s):
  top.fdiv f=(a*d+c*b).fdiv (Int.gcd (a*d+c*b) (b*d))/\b.fdiv s*d.fdiv f=(b*d).fdiv (Int.gcd (a*d+c*b) (b*d))/\s≠0/\f≠0:=by
 obtain⟨x,y,hx,R,U,hs⟩:=split (a:=b) (b:=d) .e
 rw [<- es] at hx R hs
 have ex:b.fdiv s=x:=fT hx hs
 have G:d.fdiv s=y:=fT R hs
 rw [ex,G] at p
 have m:jW top x:=by
  have q1:jW (a*y) x:=jW.mulL (h1.dvdR ⟨s,by rw [hx,zbr]⟩) U.symm
  have q2:=q1.addL (b:=c)
  rw [<- p] at q2
  exact q2
 have g:jW top y:=by
  have q1:jW (c*x) y:=jW.mulL (h2.dvdR ⟨s,by rw [R,zbr]⟩) U
  have q2:=q1.addL (b:=a)
  rw [Int.add_comm,<- p] at q2
  exact q2
 obtain⟨u,v,hu,N,_,hl⟩:=split (a:=top) (b:=s) hs
 rw [<- o] at hu N hl
 have e1:a*d+c*b=s*top:=by
  rw [p]
  calc a*d+c*b=a*(s*y)+c*(s*x):=by rw [<- hx,<- R]
   _=s*(a*y+c*x):=by rw [Int.mul_add,zbq,zbq c]
 have e2:b*d=s*(x*(y*s)):=by
  calc b*d=(s*x)*(s*y):=by rw [<- hx,<- R]
   _=s*(x*(y*s)):=by rw [zbs,zbr y s]
 have sp:0≤s:=by rw [es];omega
 have t:0≤f:=by rw [o];omega
 have q:((Int.gcd (a*d+c*b) (b*d):Nat):Int)=s*f:=by
  rw [e1,e2,zce]
  have k1:Int.gcd top (x*(y*s))=Int.gcd top s:=by
   show Nat.gcd top.natAbs (x*(y*s)).natAbs=Nat.gcd top.natAbs s.natAbs
   rw [zaZ,zaZ,zbB _ (Nat.Coprime.symm m),zbB _ (Nat.Coprime.symm g)]
  rw [k1,o]
  push_cast
  rw [zbW sp]
 have h:s*f≠0:=Int.mul_ne_zero hs hl
 have tl:top.fdiv f=u:=fT hu hl
 have dl:d.fdiv f=v*y:=fT (by rw [R,N,zbs]) hl
 refine⟨?_,?_,hs,hl⟩
 ·rw [q,tl,e1]
  exact (fT (by rw [zbs,<- hu]) h).symm
 ·rw [q,ex,dl,e2]
  refine (fT ?_ h).symm
  calc s*(x*(y*s))=s*(x*(y*(f*v))):=by rw [<- N]
   _=s*f*(x*(v*y)):=by
    rw [zbs s f]
    congr 1
    rw [zbq y f v,zbq x f,zbr y v]
theorem LI {a b c d:Int}(hb:0<b)(hd:0<d)(h1:jW a b)(h2:jW c d)(l r:Int)(o:l=Int.gcd a d)(m:r=Int.gcd c b):
  a.fdiv l*c.fdiv r=(a*c).fdiv (Int.gcd (a*c) (b*d))/\b.fdiv r*d.fdiv l=(b*d).fdiv (Int.gcd (a*c) (b*d))/\l≠0/\r≠0:=by
 obtain⟨f,d',ha,j,c1,hl⟩:=split (a:=a) (b:=d) .e
 obtain⟨g,i,U,y,c2,hr⟩:=split (a:=c) (b:=b) .e
 rw [<- o] at ha j hl
 rw [<- m] at U y hr
 have k:jW (f*g) (i*d'):=by
  have ab:jW f i:=(h1.dvdL ⟨l,by rw [zbr];exact ha⟩).dvdR ⟨r,by rw [zbr];exact y⟩
  have cd:jW g d':=(h2.dvdL ⟨r,by rw [zbr];exact U⟩).dvdR ⟨l,by rw [zbr];exact j⟩
  exact jW.mulR (jW.mulL ab c2) (jW.mulL c1 cd)
 have e1:a*c=l*r*(f*g):=by
  calc a*c=(l*f)*(r*g):=by rw [<- ha,<- U]
   _=l*r*(f*g):=by rw [zbs,zbq f r g,zbs]
 have e2:b*d=l*r*(i*d'):=by
  calc b*d=(r*i)*(l*d'):=by rw [<- y,<- j]
   _=l*r*(i*d'):=by rw [zbs,zbq i l d',<- zbs,zbr r l]
 have t:0≤l:=by rw [o];omega
 have n:0≤r:=by rw [m];omega
 have q:((Int.gcd (a*c) (b*d):Nat):Int)=l*r:=by
  rw [e1,e2,zce,k]
  push_cast
  rw [Int.mul_one,zbW (Int.mul_nonneg t n)]
 have h:l*r≠0:=Int.mul_ne_zero hl hr
 refine⟨?_,?_,hl,hr⟩
 ·rw [q,fT ha hl,fT U hr]
  exact (fT e1 h).symm
 ·rw [q,fT y hr,fT j hl]
  exact (fT e2 h).symm
end Qm
namespace Rq
end Rq
namespace My
open PySem PySem.Spec PyProof.Rows L2 TM
abbrev one (c:Nat):Str:=⟨#[c]⟩
def cs (x:Str):List Nat:=x.cps.toList
theorem xD (a b:Str):cs (a++b)=cs a++cs b:=Array.toList_append
theorem BJ {a b:Str}(h:cs a=cs b):a=b:=by
 cases a;cases b
 exact congrArg Str.mk (Array.ext' h)
theorem MG (a:Str):a.length=(cs a).length:=by cases a;rfl
theorem MB (x:Str)(c i:Nat):StrLaws.At x (one c) x.length i ↔ (cs x)[i]? = some c:=StrLaws.subAt_one x c i
theorem parts_free {x:Str}{c:Nat}:∀{cuts:.D} {lo f:Nat},StrLaws.ChainG x (one c) x.length lo cuts f->(∀k,f≤k->¬ StrLaws.At x (one c) x.length k)->∀p∈StrLaws.partsFrom x 1 lo cuts,c∉cs p
 |[],lo,f,h,hf,p,hp=>by
  rw [StrLaws.ChainG.eq_1] at h
  subst h
  rw [StrLaws.partsFrom.eq_1,zac] at hp
  subst hp
  exact StrLaws.part_free x c _ _ .b8 fun k h1 _=>hf k h1
 |i::r,lo,f,h,hf,p,hp=>by
  rw [StrLaws.ChainG.eq_2] at h
  obtain⟨h1,h2,W,N⟩:=h
  rw [StrLaws.partsFrom.eq_2] at hp
  rcases zao.mp hp with rfl | hp
  ·refine StrLaws.part_free x c _ _ ?_ W
   have:=h2.1
   omega
  ·exact parts_free (cuts:=r) N hf p hp
theorem split_free (x:Str)(c:Nat):∀p∈Txt.split x (one c),c∉cs p:=fun p hp=>by
 unfold Txt.split at hp
 obtain⟨f,h1,h2⟩:=StrLaws.occ_tight x (one c) (zap 1)
 split at hp
 ·next h =>
  rw [zac] at hp
  subst hp
  rw [Bool.or_eq_true,decide_eq_true_eq,decide_eq_true_eq] at h
  rcases h with h | h
  ·have hz:(cs p).length=0:=by rw [<- MG];exact Nat.lt_one_iff.mp h
   rw [List.length_eq_zero_iff.mp hz]
   exact zar
  ·exact StrLaws.kind_free p c h
 ·split at hp
  ·next h =>
   rw [zac] at hp
   subst hp
   rw [List.isEmpty_iff.mp h,StrLaws.ChainG.eq_1] at h1
   subst h1
   intro m
   obtain⟨i,hi,e⟩:=zb0 m
   exact h2 i (za4 _) ((MB p c i).mpr (by rw [zas hi,e]))
  ·rw [StrLaws.partsBetween_eq] at hp
   exact parts_free h1 h2 p hp
def jl (c:Nat):List .bL->List Nat
 |[]=>[]
 |[p]=>p
 |p::q::r=>p++c::jl c (q::r)
theorem kH {c:Nat}{p q:.D}{r:.R}:jl c (p::q::r)=p++c::jl c (q::r):=rfl
theorem rE (c:Nat):∀ps:List Str,cs ((one c).join ps)=jl c (ps.map cs)
 |[]=>rfl
 |[p]=>by rw [Str.join.eq_2];rfl
 |p::q::r=>by
  rw [Str.join.eq_3 _ _ _ (fun h=>by cases h),xD,xD,rE c (q::r),zaJ]
  rfl
theorem Aw {c:Nat}:∀{p q r s:.D},c∉p->c∉q->p++c::r=q++c::s->p=q/\r=s
 |[],[],r,s,_,_,h=>⟨rfl,by simpa using h⟩
 |[],b::q,r,s,_,h2,h=>by
  simp only [List.nil_append,List.cons_append,List.cons.injEq] at h
  exact absurd (by rw [h.1];exact zad) h2
 |a::p,[],r,s,h1,_,h=>by
  simp only [List.nil_append,List.cons_append,List.cons.injEq] at h
  exact absurd (by rw [h.1];exact zad) h1
 |a::p,b::q,r,s,h1,h2,h=>by
  simp only [List.cons_append,List.cons.injEq] at h
  obtain⟨e1,e2⟩:=Aw (fun m=>h1 (.aT m)) (fun m=>h2 (.aT m)) h.2
  exact⟨by rw [h.1,e1],e2⟩
theorem HC {c:Nat}:∀{ps qs:.R},ps≠[]->qs≠[]->(∀p∈ps,c∉p)->(∀q∈qs,c∉q)->jl c ps=jl c qs->ps=qs
 |[],_,h,_,_,_,_=>absurd rfl h
 |_,[],_,h,_,_,_=>absurd rfl h
 |[p],[q],_,_,_,_,h=>by rw [show p=q from h]
 |[p],q::q2::qs,_,_,h1,_,h=>by
  rw [kH] at h
  exact absurd (show c∈p by rw [show p=q++c::jl c (q2::qs) from h];simp) (h1 p List.mem_cons_self)
 |p::p2::ps,[q],_,_,_,h2,h=>by
  rw [kH] at h
  exact absurd (show c∈q by rw [<- (show p++c::jl c (p2::ps)=q from h)];simp) (h2 q List.mem_cons_self)
 |p::p2::ps,q::q2::qs,_,_,h1,h2,h=>by
  rw [kH,kH] at h
  obtain⟨e1,e2⟩:=Aw (h1 p zad) (h2 q zad) h
  rw [e1,HC .h .h (fun z hz=>h1 z (.Y hz)) (fun z hz=>h2 z (.Y hz)) e2]
theorem tD:∀{ps qs:.V},ps.map cs=qs.map cs->ps=qs
 |[],[],_=>rfl
 |[],_::_,h=>by cases h
 |_::_,[],h=>by cases h
 |p::ps,q::qs,h=>by
  simp only [List.map_cons,List.cons.injEq] at h
  rw [BJ h.1,tD h.2]
theorem Jg (x y:Str):Txt.split x y≠[]:=by
 unfold Txt.split
 split
 ·simp
 ·split
  ·simp
  ·rw [StrLaws.partsBetween_eq]
   obtain⟨p,r,e⟩:=StrLaws.partsFrom_ne x y.length 0 (Builtin.Str.occurrences x y 0 x.length (x.length+1))
   rw [e]
   simp
theorem CH {c:Nat}{ps:.V}(h:ps≠[])(hf:∀p∈ps,c∉cs p):Txt.split ((one c).join ps) (one c)=ps:=by
 refine tD (HC (c:=c) ?_ ?_ ?_ ?_ ?_)
 ·intro z
  exact Jg _ _ (List.map_eq_nil_iff.mp z)
 ·intro z
  exact h (List.map_eq_nil_iff.mp z)
 ·intro p hp
  obtain⟨q,hq,rfl⟩:=zah.mp hp
  exact split_free _ c q hq
 ·intro p hp
  obtain⟨q,hq,rfl⟩:=zah.mp hp
  exact hf q hq
 ·rw [<- rE,StrLaws.join_split,rE]
theorem Bk (c:Nat)(ps:.V):Txt.join (one c) ps=(one c).join ps:=by
 cases ps with
 |nil=>rfl
 |cons p ps=>exact StrLaws.glued_cons (one c) ps p
theorem Sv:(17:Nat)≤sizeLine:=aR .f
theorem Uo:(6:Nat)<sizeLine:=bN .f
theorem Hi {a b c d:Int}:il (.tup .dw) (.gh)=some (.bl (decide (a=c)&&decide (b=d))):=by
 have e:il (.tup .dw) (.gh)=some (.bl ((a == c)&&((b == d)&&true))):=rfl
 rw [e,Bool.and_true,zbv,zbv]
theorem Fb {x y:Bool}:il (.lst [.bl x,.bl y]) (.lst [.bl x,.bl y])=some .b4:=by
 have e:il (.lst [.bl x,.bl y]) (.lst [.bl x,.bl y])=some (.bl ((x == x)&&((y == y)&&true))):=rfl
 rw [e,beq_self_eq_true,beq_self_eq_true]
 rfl
theorem pJ:∀(n:Nat) (u:.aB) (x y:Nat),y<n->dk (du (.a xS 1 0)) (.I 0 1) n [fP (.af x),fP (.af y),u]
  = some (.nx [fP (.af (Nat.gcd x y)),fP (.af 0),u])
 |0,_,_,_,h=>.e
 |n+1,u,x,y,h=>by
  unfold dk
  by_cases R:y=0
  ·subst R
   have h0:((0:Nat):Int)=0:=rfl
   walk_at "ev"
   simp
  ·have a:¬ ((y:Int)=0):=.e
   have hm:Int.fmod (x:Int) (y:Int)=((x%y:Nat):Int):=by rw [za3 _ .e];rfl
   have M:Nat.gcd x y=Nat.gcd y (x%y):=by rw [zci x y,Nat.gcd_rec y x,zci]
   have A:=pJ n u y (x%y) (by have:=za9 x (zbt R);omega)
   rw [M]
   clear M h R
   walk_at "ev"
theorem xf:∀(n:Nat) (u v:.aB) (x y:Nat),y<n->dk (du (.a xS 3 0)) (.I 2 3) n [u,v,fP (.af x),fP (.af y)]
  = some (.nx [u,v,fP (.af (Nat.gcd x y)),fP (.af 0)])
 |0,_,_,_,_,h=>.e
 |n+1,u,v,x,y,h=>by
  unfold dk
  by_cases R:y=0
  ·subst R
   have h0:((0:Nat):Int)=0:=rfl
   walk_at "ev"
   simp
  ·have a:¬ ((y:Int)=0):=.e
   have hm:Int.fmod (x:Int) (y:Int)=((x%y:Nat):Int):=by rw [za3 _ .e];rfl
   have M:Nat.gcd x y=Nat.gcd y (x%y):=by rw [zci x y,Nat.gcd_rec y x,zci]
   have A:=xf n u v y (x%y) (by have:=za9 x (zbt R);omega)
   rw [M]
   clear M h R
   walk_at "ev"
theorem uG {ft:FT}{fb:FS}{τ τ':aE}{n:Nat}(h:ft τ=some (false,τ'))(hn:0<n):dk ft fb n τ=some (.nx τ'):=by
 obtain⟨m,rfl⟩:∃m,n=m+1:=⟨n-1,.e⟩
 unfold dk
 rw [h]
 rfl
theorem OR:0<B:=.c
theorem bits_le {x:Int}(h:x.natAbs<B):¬ ((Builtin.Int.intBits x:Int)>4000):=by
 unfold Builtin.Int.intBits
 by_cases h0:x=0
 ·subst h0;decide
 ·rw [if_neg (by simpa using h0)]
  have:x.natAbs.log2<4000:=(Nat.log2_lt .e).mpr h
  omega
noncomputable def ju:List T->Option T
 |[.int a,.int b]=>if a.natAbs<B/\b.natAbs<B then some (.af (Int.gcd a b)) else none
 |_=>none
theorem ja {a b:Int}(ha:a.natAbs<B)(hb:b.natAbs<B):ju .dw=some (.af (Int.gcd a b)):=.ap ⟨ha,hb⟩
theorem FV (ts:List T)(t:T)(h:ju ts=some t):cj 3 2 (sr B (fun _=>none)) ts=some t:=by
 unfold ju at h
 split at h
 ·next a b =>
  split at h
  ·next hb =>
   cases h
   have hw:=pJ B none a.natAbs b.natAbs (hb.2)
   have c:=bits_le (x:=((b.natAbs:Nat):Int)) (by simpa using hb.2)
   have d:zw (.af (Builtin.Int.intBits ((b.natAbs:Nat):Int))) (.af 4000)=some .U:=by
    show some (T.bl (decide _))=_
    rw [decide_eq_false c]
   have g:dk (du .eF) (aH (.I 0 1) (.G .eF (kh (ak (fun _=>none) (.p 0 1)) (bS (aA (ai 0) (.a 1 2)))))) B [fP (.af (a.natAbs:Nat)),fP (.af (b.natAbs:Nat)),none]
     = some (.nx [fP (.af (a.natAbs:Nat)),fP (.af (b.natAbs:Nat)),none]):=uG (by
      clear hw c
      walk_at "ev") OR
   unfold cj sr
   clear hb c d
   walk_at "ev"
   rfl
  ·cases h
 ·cases h
def sg (a b:Int):Int:=if b<0 then -(Int.gcd a b:Int) else .d4
def B0 (a b:Int):T:=.tup [.int (a.fdiv (sg a b)),.int (b.fdiv (sg a b))]
noncomputable def jv:List T->Option T
 |[.int a,.int b]=>if a.natAbs<B/\b.natAbs<B/\0<b then some (B0 a b) else none
 |_=>none
theorem HM {a b:Int}(ha:a.natAbs<B)(hb:b.natAbs<B)(h0:0<b):jv .dw=some (B0 a b):=.ap ⟨ha,hb,h0⟩
theorem Hq {a b:Int}(h0:b≠0):¬ ((.aH a):Int)=0:=by
 intro h
 have:Int.gcd a b=0:=.e
 rw [Int.gcd_eq_zero_iff] at this
 exact h0 this.2
theorem zX {a b:Int}(hb:b.natAbs<B)(h0:b≠0):Int.gcd a b<B:=by
 have h1:Int.gcd a b∣b.natAbs:=Int.gcd_dvd_natAbs_right a b
 have:=Nat.le_of_dvd .e h1
 omega
theorem Bd (ts:List T)(t:T)(h:jv ts=some t):cj 4 2 (md B) ts=some t:=by
 unfold jv at h
 split at h
 ·next a b =>
  split at h
  ·next hb =>
   cases h
   obtain⟨ha,hb,h0⟩:=hb
   have h2:=Hq (a:=a) (b:=b) .e
   have W:=zX (a:=a) hb .e
   have N:((.aH a):Int).natAbs<B:=.e
   have hw:=xf B (fP (.af a)) (fP (.af b)) a.natAbs b.natAbs hb
   have p:((b.natAbs:Nat):Int)=b:=.e
   rw [p] at hw
   have M:Nat.gcd a.natAbs b.natAbs=Int.gcd a b:=rfl
   unfold cj md
   have e:B0 a b=.tup [.int (a.fdiv .d4),.int (b.fdiv .d4)]:=by unfold B0 sg;rw [if_neg .e]
   clear h0 p
   walk_at "ev"
  ·cases h
 ·cases h
theorem OQ:(10:Nat)^100<B:=.c
theorem OZ {i:Int}(h1 : -(10:Int)^100<i)(h2:i<(10:Int)^100):i.natAbs<B:=by
 have:=OQ
 have W:((10:Nat)^100:Nat)=10000000000000000000000000000000000000000000000000000000000000000000000000000000000000000000000000000:=.c
 have N:(10:Int)^100=10000000000000000000000000000000000000000000000000000000000000000000000000000000000000000000000000000:=.c
 omega
def S (l:.D):Str:=⟨l.toArray⟩
theorem Gx (x:Str):S x.cps.toList=x:=by cases x;simp [S]
theorem ei (l:.D):(S l).cps.toList=l:=by simp [S]
theorem cH (l:.D):(S l).length=l.length:=by simp [S,Str.length]
theorem Gv (a b:.D):S a++S b=S (a++b):=by
 show (⟨(S a).cps++(S b).cps⟩:Str)=_
 simp [S]
theorem C3 {a b:.D}(h:S a=S b):a=b:=by
 have:=congrArg (fun x:Str=>x.cps.toList) h
 simpa [S] using this
theorem Gw {x:Str}{l:.D}(h:x.cps.toList=l):x=S l:=by rw [<- h,Gx]
def ds (n:Nat):List Nat:=(Nat.toDigits 10 n).map Char.toNat
theorem LA (n:Nat):Str.ofString (toString ((n:Nat):Int))=S (ds n):=Gw (PySem.W.KIN.signs_num n)
theorem LB (n:Nat):Str.ofString (toString (-((n+1:Nat):Int)))=S (45::ds (n+1)):=by
 refine Gw ?_
 rw [signs_ofString]
 show (("-"++Nat.repr (n+1)).toList).map Char.toNat=_
 rw [String.toList_append,zay,Nat.toList_repr]
 rfl
theorem gf (n:Nat):NumText.AllDigits (ds n):=by
 intro c U
 obtain⟨ch,a,e⟩:=zah.mp U
 have r:=digit_range (Nat.isDigit_of_mem_toDigits .f .f a)
 rw [<- e]
 exact r
theorem BU (n:Nat):NumText.digitsVal (ds n)=n:=PySem.W.KIN.val_back n
theorem zM (n:Nat):ds n≠[]:=by
 intro e
 have h:1≤(Nat.toDigits 10 n).length:=Nat.length_toDigits_pos
 have:=congrArg List.length e
 unfold ds at this
 rw [zaf] at this
 simp at this
theorem qD {n:Nat}(h:n<10):ds n=[48+n]:=by
 unfold ds
 rw [Nat.toDigits_of_lt_base h,NumText.digitChar_of n h]
 have:∀m:Nat,m<10->(Char.ofNat (48+m)).toNat=48+m:=.f
 simp [this n h]
theorem rG {m d:Nat}(hm:0<m)(hd:d<10):ds (10*m+d)=ds m++ds d:=by
 unfold ds
 rw [<- Nat.toDigits_append_toDigits .f hm hd,zay]
theorem GW:∀(k q r:Nat),0<q->r<10^(k+1)->ds (q*10^(k+1)+r)=ds q++(List.replicate (k+1-(ds r).length) 48++ds r)
 |0,q,r,hq,hr=>by
  have hr:r<10:=by simpa using hr
  rw [show q*10^(0+1)+r=10*q+r by simp;omega,rG hq hr,qD hr]
  rfl
 |k+1,q,r,hq,hr=>by
  have h1:r/10<10^(k+1):=by
   rw [zbN .f]
   rw [Nat.pow_succ] at hr
   exact hr
  have h2:r%10<10:=za9 _ .f
  have W:q*10^(k+1+1)+r=10*(q*10^(k+1)+r/10)+r%10:=by
   rw [Nat.pow_succ 10 (k+1),<- Nat.mul_assoc]
   have:=zb1 r 10
   omega
  have N:0<q*10^(k+1)+r/10:=by
   have:0<q*10^(k+1):=Nat.mul_pos hq (Nat.pow_pos .f)
   omega
  rw [W,rG N h2,GW k q (r/10) hq h1]
  by_cases D:r/10=0
  ·have g:r<10:=.e
   have j:r%10=r:=Nat.mod_eq_of_lt g
   rw [D,j,qD g,qD (show 0<10 by decide)]
   simp only [List.length_singleton,List.append_assoc,Nat.add_sub_cancel]
   congr 1
   rw [show k+1=k+1 from rfl,List.replicate_succ' (n:=k)]
   simp
  ·have g:ds r=ds (r/10)++ds (r%10):=by
    rw [<- rG .e h2,zb1]
   rw [g,zak,qD h2,zau]
   simp only [List.append_assoc]
   rw [show k+1+1-((ds (r/10)).length+1)=k+1-(ds (r/10)).length by omega]
theorem fV:∀(k n:Nat),n<10^(k+1)->(ds n).length≤k+1
 |0,n,h=>by rw [qD .an];exact Nat.le_refl _
 |k+1,n,h=>by
  by_cases h1:n<10
  ·rw [qD h1];simp
  ·have h2:n/10<10^(k+1):=by
    rw [zbN .f]
    rw [Nat.pow_succ] at h
    exact h
   have e:ds n=ds (n/10)++ds (n%10):=by
    rw [<- rG .e (za9 _ .f),zb1]
   have:=fV k (n/10) h2
   rw [e,zak,qD (za9 n (by decide:0<10)),zau]
   omega
theorem rY:Str.ofString "-" = S [45]:=.c
theorem uy:Str.ofString "/" = S [47]:=.c
theorem zi:Str.ofString "" = S []:=.c
theorem Q0:Str.ofString "1" = S [49]:=.c
theorem EG (l:.D)(c i:Nat):StrLaws.At (S l) (S [c]) (S l).length i ↔ l[i]? = some c:=by
 have:=StrLaws.subAt_one (S l) c i
 rw [ei] at this
 exact this
theorem wO (l:.D):Txt.removeprefix (S (45::l)) (S [45])=S l:=by
 rw [StrLaws.removeprefix_eq,if_pos]
 ·rw [ei,cH,cH]
  show S ((l.take (l.length+1-1)))=S l
  rw [Nat.add_sub_cancel,zcd]
 ·rw [cH,cH,StrLaws.subAt_eq,ei,ei,cH]
  simp
theorem wQ {l:.D}(h:l.head?≠some 45):Txt.removeprefix (S l) (S [45])=S l:=by
 rw [StrLaws.removeprefix_eq,if_neg]
 rw [cH,cH,StrLaws.subAt_eq,ei,ei,cH]
 cases l with
 |nil=>simp
 |cons c r =>
  simp at h
  simp [h]
theorem K1 {l:.D}(h:47∉l):Txt.partition (S l) (S [47])=(S l,S [],S []):=by
 rcases partition_whole (S l) (S [47]) with ⟨e,_⟩ | ⟨i,e,h1,_⟩
 ·exact e
 ·exact absurd (zbA ((EG l 47 i).mp h1)) h
theorem IA {a b:.D}(h:47∉a):Txt.partition (S (a++47::b)) (S [47])=(S a,S [47],S b):=by
 have M:(a++47::b)[a.length]? = some 47:=.h
 rcases partition_whole (S (a++47::b)) (S [47]) with ⟨_,h1⟩ | ⟨i,e,h1,h2⟩
 ·exact absurd ((EG _ 47 a.length).mpr M) (h1 a.length)
 ·have c:=(EG _ 47 i).mp h1
  have hi:i=a.length:=by
   rcases Nat.lt_trichotomy i a.length with hl | hl | hl
   ·rw [List.getElem?_append_left hl] at c
    exact absurd (zbA c) h
   ·exact hl
   ·exact absurd ((EG _ 47 a.length).mpr M) (h2 a.length hl)
  subst hi
  rw [e]
  have e1:Builtin.Str.strSub (S (a++47::b)) 0 a.length=S a:=Gw (by rw [StrLaws.strSub_toList,ei];simp)
  have e2:Builtin.Str.strSub (S (a++47::b)) (a.length+(S [47]).length) (S (a++47::b)).length=S b:=Gw (by
   rw [StrLaws.strSub_toList,ei,cH,cH]
   simp only [List.length_append,List.length_cons,List.length_nil,Nat.zero_add]
   rw [List.drop_append,List.drop_eq_nil_of_le .e,za7,show a.length+1-a.length=1 by omega,show a.length+(b.length+1)-(a.length+1)=b.length by omega]
   show b.take b.length=b
   exact zcd)
  rw [e1,e2]
theorem Ki (c:Nat):qR (.str ⟨#[c]⟩) (.str "0123456789")=some (.aA (48≤c/\c≤57))/\Kb (.str ⟨#[c]⟩) (.str "0123456789")=some (.bl (!decide (48≤c/\c≤57))):=by
 have hl:.fS=S [48,49,50,51,52,53,54,55,56,57]:=.c
 have hm:(Builtin.Str.occurrences .fS ⟨#[c]⟩ 0 (Str.ofString "0123456789").length 1).isEmpty = !decide (48≤c/\c≤57):=by
  rw [hl]
  rcases StrLaws.occ_head (S [48,49,50,51,52,53,54,55,56,57]) ⟨#[c]⟩ 1 (zap 1) with ⟨e,h⟩ | ⟨i,r,e,h,_⟩
  ·rw [e]
   have:¬ (48≤c/\c≤57):=fun U=>by
    have:c∈[48,49,50,51,52,53,54,55,56,57]:=.j
    obtain⟨i,hi⟩:=List.mem_iff_getElem?.mp this
    exact h i ((EG _ c i).mpr hi)
   rw [decide_eq_false this]
   rfl
  ·rw [e]
   have:c∈[48,49,50,51,52,53,54,55,56,57]:=zbA ((EG _ c i).mp h)
   have:48≤c/\c≤57:=by simp at this;omega
   rw [decide_eq_true this]
   rfl
 refine⟨?_,?_⟩
 ·show some (T.bl (!(Builtin.Str.occurrences .fS ⟨#[c]⟩ 0 (Str.ofString "0123456789").length 1).isEmpty))=_
  rw [hm,Bool.not_not]
 ·show some (T.bl (Builtin.Str.occurrences .fS ⟨#[c]⟩ 0 (Str.ofString "0123456789").length 1).isEmpty)=_
  rw [hm]
theorem Gj {l:.D}(h:NumText.AllDigits l)(hn:l≠[])(hl:l.length≤36):Txt.zfill (S l) 36=S (List.replicate (36-l.length) 48++l):=by
 unfold Txt.zfill
 rw [cH]
 by_cases h1:(36:Int)≤(l.length:Int)
 ·rw [if_pos h1,show 36-l.length=0 by omega]
  rfl
 ·rw [if_neg h1]
  show PySem.zfilled (S l) (36-l.length)=_
  unfold PySem.zfilled
  cases l with
  |nil=>exact absurd rfl hn
  |cons c r =>
   have U:=h.head
   have e:(S (c::r)).cps[0]? = some c:=by simp [S]
   rw [e]
   have:∀y:Str,(match some c with | some 43=>y | some 45=>y | _=>Builtin.Str.padded (S (c::r)) (36-(c::r).length) 0 48)=Builtin.Str.padded (S (c::r)) (36-(c::r).length) 0 48:=by
    intro y
    split
    ·next h=>cases h;omega
    ·next h=>cases h;omega
    ·rfl
   refine (this _).trans ?_
   refine Gw ?_
   simp [Builtin.Str.padded,S]
theorem join_one (a:.D):Txt.join (S []) [S a]=S a:=by
 show Builtin.Str.glued (S []) [S a]=_
 rfl
theorem HE (a b:.D):Txt.join (S []) [S a,S b]=S (a++b):=by
 show Builtin.Str.glued (S []) [S a,S b]=_
 rw [StrLaws.glued_eq_join]
 show S a++S []++S b=_
 rw [Gv,Gv,zaA]
abbrev s (t:T):Option Sl:=fP t
abbrev tx (l:.D):T:=.str (S l)
def Mf (c:Nat):Bool:=decide (48≤c/\c≤57)
def PZ (l:.D):Bool:=(decide (1≤l.length)&&decide (l.length≤30))&&l.all Mf
theorem Kn {l:.D}:PZ l=true ↔ (l≠[]/\l.length≤30)/\NumText.AllDigits l:=by
 unfold PZ NumText.AllDigits
 simp only [Bool.and_eq_true,decide_eq_true_eq,List.all_eq_true,Mf]
 constructor
 ·rintro ⟨⟨h1,h2⟩,W⟩
  exact⟨⟨fun e=>by rw [e] at h1;simp at h1,h2⟩,W⟩
 ·rintro ⟨⟨h1,h2⟩,W⟩
  exact⟨⟨by cases l with | nil=>exact absurd rfl h1 | cons a b=>simp,h2⟩,W⟩
abbrev OB:List T->Option T:=cj 1 1 oK
theorem bP {α:Type}{φ:α->T}{fe:FE}{g:α->T}{ρ:aE}(hr:bE ρ=true):∀(l:List α) (u:.aB) (acc:List T),(∀x∈l,fe (fP (φ x)::ρ)=some (g x,fP (φ x)::ρ))->acc.length+l.length≤sizeLine->dM (ai 0) aI fe (l.map φ) (u::ρ) acc=some (acc++l.map g)
 |[],u,acc,_,_=>by simp [dM]
 |x::l,u,acc,h,hl=>by
  have i:.c6:=hl
  rw [zag,dM,show ai 0 (φ x) (u::ρ)=some (fP (φ x)::ρ) from rfl,zaa,show aI (fP (φ x)::ρ)=some (true,fP (φ x)::ρ) from rfl,zaa,if_pos rfl,h x zad,zaa,if_pos ⟨hr,.e⟩,
   bP hr l _ _ (fun z hz=>h z (.Y hz)) .cD,List.map_cons,List.append_assoc]
  rfl
theorem aQ {g:.cS}{f1 f2:FE}{τ τ1 τ2:aE}{a b t:T}(h1:f1 τ=some (a,τ1))(h2:f2 τ1=some (b,τ2))(W:g a b=some t):au g f1 f2 τ=some (t,τ2):=by
 unfold au
 rw [h1,zaa]
 dsimp only
 rw [h2,zaa]
 dsimp only
 rw [W]
 rfl
theorem Eh (l:.D):jT (S l)=l.map fun c=>T.str ⟨#[c]⟩:=by unfold jT;rw [ei]
theorem vY (f:Nat->Bool):∀l:List Nat,boolsOf (l.map fun c=>T.bl (f c))=some (l.map f)
 |[]=>rfl
 |c::l=>by
  show (boolsOf _).bind _=_
  rw [vY f l]
  rfl
theorem Mi {l:.D}(h:l.length≤1000):cJ [tx l]=some (.int l.length):=by
 show (.aL (T.int (S l).length))=_
 rw [cH,.ap (aR h)]
theorem L7 (l:.D)(h:l.length≤1000):OB [tx l]=some (.bl (PZ l)):=by
 have d:(.bQ) .d2=some (.lst (l.map fun c=>.bl (Mf c)),.d2):=by
  show (dM (ai 0) aI (.e qR 0 (.str "0123456789")) (jT (S l)) [none] []).bind _=_
  rw [Eh,bP (g:=fun c=>.bl (Mf c)) rfl l none [] (fun c _=>?_) (by simpa using aR h)]
  ·rfl
  ·exact aQ rfl rfl (Ki c).1
 have f:kA [.lst (l.map fun c=>.bl (Mf c))]=some (.bl (l.all Mf)):=by
  show (boolsOf _).bind _=_
  rw [vY]
  show some (T.bl ((l.map Mf).all id))=_
  rw [zch]
  rfl
 have hlen:=Mi h
 have a:(.an 30) .d2=some (.bl (decide (1≤l.length)&&decide (l.length≤30)),.d2):=by
  have h0:(.l cJ 0) .d2=some (.int l.length,.d2):=by
   show (cJ [tx l]).bind _=_
   rw [hlen]
   rfl
  unfold ik
  rw [show aF 1 .d2=some (.int 1,.d2) from rfl,zaa]
  dsimp only
  rw [h0,zaa]
  show (some (.bc ((1:Int)≤(l.length:Int)))).bind _=_
  rw [zaa]
  by_cases h1:1≤l.length
  ·rw [decide_eq_true (show (1:Int)≤(l.length:Int) by omega),decide_eq_true h1]
   show some (T.bl (decide ((l.length:Int)≤30)),_)=_
   rw [zbK]
   congr 3
   exact .dY
  ·rw [decide_eq_false (show ¬ (1:Int)≤(l.length:Int) by omega),decide_eq_false h1]
   rfl
 show (bx (hU (.an 30) (.j kA .bQ)) .d2).bind _=_
 unfold PZ
 generalize (.an 30)=fc at *
 generalize .bQ=i at *
 generalize (decide (1≤l.length)&&decide (l.length≤30))=b at *
 cases b with
 |true =>
  rw [zbK]
  unfold bx hU
  rw [a,zaa]
  dsimp only
  show ((((i .d2).bind _).bind _).bind _).bind _=_
  rw [d]
  show ((((kA [.lst (l.map fun c=>.bl (Mf c))]).bind _)).bind _).bind _=_
  rw [f]
  rfl
 |false =>
  unfold bx hU
  rw [a]
  rfl
abbrev OA:List T->Option T:=cj 3 1 (vS 3)
theorem oO {n:Nat}(h:n<10^100):lM [.int n]=some (tx (ds n)):=by
 show (if (n:Int).natAbs.log2<1920 then some (T.str (Str.ofString (toString (n:Int)))) else none)=_
 rw [if_pos,LA]
 show n.log2<1920
 by_cases h0:n=0
 ·rw [h0];decide
 ·refine (Nat.log2_lt h0).mpr (zaS h .c)
theorem Fh {a b:.D}(h:a.length+b.length≤1000):aT (tx a) (tx b)=some (tx (a++b)):=by
 rw [Hf (by rw [cH,cH];exact aR h),Gv]
theorem Ff {a:.D}(h:a.length≤1000):dG .fw (.lst [tx a])=some (tx a):=by
 show (if ((S a).length+0)+1*(Str.ofString "").length≤16777216 then some (T.str (Txt.join (Str.ofString "") [S a])) else none)=_
 rw [zi,cH,cH,if_pos .j,join_one]
theorem Fg {a b:.D}(h:a.length+b.length≤1000):dG .fw (.lst [tx a,tx b])=some (tx (a++b)):=by
 show (if ((S a).length+((S b).length+0))+2*(Str.ofString "").length≤16777216 then some (T.str (Txt.join (Str.ofString "") [S a,S b])) else none)=_
 rw [zi,cH,cH,cH,if_pos .j,HE]
def Pr:FT:=(du (au PB (ae 0) .fq))
def Pq:FS:=(aH (kh (.aa O3 .fq) (bS (.a 0 2)))
  (eQ 1 (au M0 (.l lM 2) (aF 36))))
theorem Mo:.fq=fun τ=>some (.int 1000000000000000000000000000000000000,τ):=by funext τ;kernel_rfl
theorem G6 (n:Nat)(us:List T)(o:.aB):Pr [.e n,.o us,o]=some (decide (10^36≤n),[.e n,.o us,o]):=by
 unfold Pr
 rw [Mo]
 show some (decide ((1000000000000000000000000000000000000:Int)≤(n:Int)),_)=_
 congr 2
 exact .dY
theorem MR (n:Nat)(h:n<10^72)(us:List T)(hu:us.length≤10)(o:.aB):Pq [.e n,.o us,o]=some (.nx [.e ((n/10^36:Nat):Int),.o (us++[tx .aX]),.e .gE]):=by
 have hr:n%10^36<10^36:=za9 _ .c
 have hd:O3 [.int n,.int 1000000000000000000000000000000000000]=some (.Y ((n/10^36:Nat):Int) .gE):=by
  show (if vQ (n:Int) 1000000000000000000000000000000000000 then some (T.tup [.int ((n:Int).fdiv 1000000000000000000000000000000000000),.int ((n:Int).fmod 1000000000000000000000000000000000000)]) else none)=_
  rw [.ap ⟨.f,OZ .f .f⟩,zbf _ .f,za3 _ .f]
  rfl
 have hs:lM [.int .gE]=some (tx (ds (n%10^36))):=oO (zaS hr .c)
 have hz:M0 (tx (ds (n%10^36))) (.af 36)=some (tx .aX):=by
  show (if PadOk 36=true then some (T.str (Txt.zfill (S (ds (n%10^36))) 36)) else none)=_
  rw [if_pos .c,Gj (gf _) (zM _) (fV 35 _ hr)]
 have hl:us.length<sizeLine:=bN .e
 unfold Pq
 rw [Mo]
 generalize n%10^36=r at *
 generalize n/10^36=q at *
 generalize (List.replicate (36-(ds r).length) 48++ds r)=z at *
 clear h hr hu
 walk_at "ev"
theorem uH {ft:FT}{fb:FS}{n:Nat}{τ τ1 τ2:aE}(h1:ft τ=some (true,τ1))(h2:fb τ1=some (.nx τ2)):dk ft fb (n+1) τ=dk ft fb n τ2:=by
 rw [dk,h1,zaa,.eZ,h2]
 rfl
theorem wk {n:Nat}(h:n<10^36)(us:List T)(o:.aB)(k:Nat):dk Pr Pq (k+1) [.e n,.o us,o]=some (.nx [.e n,.o us,o]):=
 uG (by rw [G6,.g5]) .e
theorem L5 {n:Nat}(h:n<10^72):OA [.int n]=some (tx (ds n)):=by
 have rest:∀(m:Nat) (us:List T) (o:.aB) (w:.D),m<10^36->us.length≤10->dG .fw (.lst (us++[tx (ds m)]).reverse)=some (tx w) ->
   (aH (eQ 1 (.l lM 0)) .dN) [.e m,.o us,o]=some (.rt (tx w)):=by
  intro m us o w hm hu S
  have hs:lM [.int m]=some (tx (ds m)):=oO (zaS hm .c)
  have hl:us.length<sizeLine:=bN .e
  have N:∀vs:List T,(kF 1 (cT .gk)) [.e m,.o vs,o]=some (.lst vs.reverse,[.e m,.o vs,o]):=fun _=>rfl
  generalize (kF 1 (cT .gk))=fr at *
  clear hu hm
  walk_at "ev"
 show ((aH (bK 1 ar) (aH (dk Pr Pq 3) (aH (eQ 1 (.l lM 0)) .dN))) [.e n,none,none]).bind _=_
 have h0:bK 1 ar [.e n,none,none]=some (.nx [.e n,.dv,none]):=rfl
 by_cases h1:n<10^36
 ·have hr:=rest n [] none (ds n) h1 .h (by
   show dG .fw (.lst [tx (ds n)])=_
   exact Ff (zaG (fV 35 n h1) .f))
  have hw:=wk h1 [] none 2
  unfold aH at hr ⊢
  rw [h0,zaa]
  dsimp only
  rw [hw,zaa]
  dsimp only
  rw [hr]
  rfl
 ·have hq:n/10^36<10^36:=by
   rw [zbN .c]
   exact zaw h .c
  have b:0<n/10^36:=Nat.div_pos .e .c
  have a:n%10^36<10^36:=za9 _ .c
  have he:ds n=ds (n/10^36)++(List.replicate (36-(ds (n%10^36)).length) 48++ds (n%10^36)):=by
   have:=GW 35 (n/10^36) (n%10^36) b a
   rw [Nat.mul_comm,zb1] at this
   exact this
  have d:=fV 35 _ hq
  have f:=fV 35 _ a
  have hb:=MR n h [] .h none
  have hr:=rest (n/10^36) [tx .aX] (s (.af .gE)) (ds n) hq .h (by
   show dG .fw (.lst [tx (ds (n/10^36)),tx .aX])=_
   rw [he]
   refine Fg ?_
   rw [zak,zbj]
   omega)
  have hw:dk Pr Pq 3 [.e n,.dv,none]=some (.nx [.e ((n/10^36:Nat):Int),.o ([]++[tx .aX]),.e .gE]):=by
   rw [uH (by rw [G6,decide_eq_true .e]) hb]
   exact wk hq _ _ 1
  unfold aH at hr ⊢
  rw [h0,zaa]
  dsimp only
  rw [hw,zaa]
  dsimp only
  rw [za7,hr]
  rfl
noncomputable def gX (a:Int)(b:Nat):List Nat:=(if a<0 then [45] else [])++(ds a.natAbs++if b=1 then [] else 47::ds b)
abbrev zv (a:Int)(b:Nat):T:=.tup .dw
abbrev Pd:List T->Option T:=cj 3 1 (qA OA)
abbrev Pe:List T->Option T:=cj 1 1 jZ
theorem QF {a:Int}{b:Nat}(ha:a.natAbs<10^72)(hb:b<10^72):Pd [zv a b]=some (tx (gX a b)):=by
 have h1:=L5 ha
 have h2:=L5 hb
 have d:=fV 71 _ ha
 have f:=fV 71 _ hb
 have W:=sM a
 have N:br (zv a b) (.af 0)=some (.af a):=rfl
 have D:br (zv a b) (.af 1)=some (.af b):=rfl
 have g:il (.af b) (.af 1)=some (.aA (b=1)):=by
  rw [gW]
  congr 2
  exact .dY
 have j:Fd (.af a) (.af 0)=some (.aA (a<0)):=rfl
 show ((aH (bF 1 (zP (du (.i Fd .eU 0)) (fC .hD) (fC .fw)))
  (aH (bF 2 (ak OA (.ac (ak sL (ag .eU ar)))))
  (aH (.G (.i il .cY 1) (bx (.c aT 1 2)))
  (bx (.ao (.c aT 1 2) (.j OA .cY)))))) [s (zv a b),none,none]).bind _=_
 rw [rY,zi,uy]
 have i:∃sg:List Nat,sg.length≤1/\(if a<0 then ([45]:List Nat) else [])=sg/\zP (du (.i Fd .eU 0)) (fC (.str (S [45]))) (fC (.str (S []))) [s (zv a b),none,none]=some (tx sg,[s (zv a b),none,none]):=by
  by_cases hn:a<0
  ·refine⟨[45],.f,if_pos hn,?_⟩
   rw [decide_eq_true hn] at j
   clear h1 h2 d f ha hb g
   walk_at "ev"
  ·refine⟨[],.f,if_neg hn,?_⟩
   rw [decide_eq_false hn] at j
   clear h1 h2 d f ha hb g
   walk_at "ev"
 obtain⟨sg,h,k,i⟩:=i
 unfold gX
 rw [k]
 have g1:aT (tx sg) (tx (ds a.natAbs))=some (tx (sg++ds a.natAbs)):=Fh .e
 have g2:aT (tx (sg++ds a.natAbs)) (tx [47])=some (tx .cj):=Fh .cD
 have g3:aT (tx .cj) (tx (ds b))=some (tx (.cj++ds b)):=Fh (by rw [List.length_append,List.length_append];simp;omega)
 generalize zP (du (.i Fd .eU 0)) (fC (.str (S [45]))) (fC (.str (S [])))=fi at *
 generalize OA=m at *
 by_cases c:b=1
 ·rw [decide_eq_true c] at g
  rw [if_pos c,zaA]
  generalize ds a.natAbs=l at *
  generalize ds b=db at *
  clear h2 d f ha hb h k g2 g3 j c
  walk_at "ev"
 ·rw [decide_eq_false c] at g
  rw [if_neg c]
  rw [show sg++(ds a.natAbs++47::ds b)=.cj++ds b by simp]
  generalize ds a.natAbs=l at *
  generalize ds b=db at *
  clear d f ha hb h k j c
  walk_at "ev"
theorem GX {a:Int}(h:a.natAbs<10^100):lM [.int a]=some (tx ((if a<0 then [45] else [])++ds a.natAbs)):=by
 by_cases hn:a<0
 ·obtain⟨m,hm⟩:∃m:Nat,a = -((m+1:Nat):Int):=⟨a.natAbs-1,.e⟩
  rw [if_pos hn]
  subst hm
  rw [show (-((m+1:Nat):Int)).natAbs=m+1 by omega] at h ⊢
  show (if (-((m+1:Nat):Int)).natAbs.log2<1920 then some (T.str (Str.ofString (toString (-((m+1:Nat):Int))))) else none)=_
  rw [if_pos,LB]
  ·rfl
  ·rw [show (-((m+1:Nat):Int)).natAbs=m+1 by omega]
   exact (Nat.log2_lt .e).mpr (zaS h .c)
 ·obtain⟨m,rfl⟩:=Int.eq_ofNat_of_zero_le (show 0≤a by omega)
  rw [if_neg hn]
  exact oO h
theorem Q1 {a:Int}{b:Nat}(ha:a.natAbs<10^72)(hb:b<10^72):Pe [zv a b]=some (tx (gX a b)):=by
 have h1:=GX (a:=a) (zaS ha .c)
 have h2:=oO (zaS hb (by decide +kernel:10^72<10^100))
 have d:=fV 71 _ ha
 have f:=fV 71 _ hb
 have N:br (zv a b) (.af 0)=some (.af a):=rfl
 have D:br (zv a b) (.af 1)=some (.af b):=rfl
 have g:il (.af b) (.af 1)=some (.aA (b=1)):=by
  rw [gW]
  congr 2
  exact .dY
 have i:((if a<0 then [45] else []):List Nat).length≤1:=by split<;>simp
 unfold gX
 generalize (if a<0 then [45] else []:List Nat)=sg at *
 have g2:aT (tx (sg++ds a.natAbs)) (tx [47])=some (tx .cj):=Fh .cD
 have g3:aT (tx .cj) (tx (ds b))=some (tx (.cj++ds b)):=Fh (by rw [List.length_append,List.length_append];simp;omega)
 show ((aH (.G (.i il .cY 1) (bx (ak lM (.ac .eU))))
  (bx (.ao (ak lM (.ac .eU)) (.j lM .cY)))) [s (zv a b)]).bind _=_
 rw [uy]
 generalize lM=m at *
 by_cases c:b=1
 ·rw [decide_eq_true c] at g
  rw [if_pos c,zaA]
  generalize ds a.natAbs=l at *
  generalize ds b=db at *
  clear h2 d f ha hb i g2 g3 c
  walk_at "ev"
 ·rw [decide_eq_false c] at g
  rw [if_neg c]
  rw [show sg++(ds a.natAbs++47::ds b)=.cj++ds b by simp]
  generalize ds a.natAbs=l at *
  generalize ds b=db at *
  clear d f ha hb i c
  walk_at "ev"
abbrev Rf:List T->Option T:=cj 1 1 su
abbrev L0:List T->Option T:=cj 3 1 (jC Rf ju)
theorem HB (a:Int):Rf [.int a]=some .b4:=.a
theorem Mc {a:Int}{b:Nat}(ha:a.natAbs<B)(hb:b<B):L0 [zv a b]=some (.bl (decide (1≤b)&&decide (Int.gcd a b=1))):=by
 have h1:=HB a
 have h2:=HB (b:Int)
 have W:=ja (a:=a) (b:=(b:Int)) ha (by simpa using hb)
 have N:PB (.af b) (.af 1)=some (.aA (1≤b)):=by
  show some (.bc ((1:Int)≤(b:Int)))=_
  congr 2
  exact .dY
 have D:il (.af (.aH a)) (.af 1)=some (.aA (Int.gcd a b=1)):=by
  rw [gW]
  congr 2
  exact .dY
 have e2:((2:Nat):Int)=2:=rfl
 unfold L0 cj jC
 generalize Rf=E at *
 generalize ju=J at *
 generalize Int.gcd a b=g at *
 by_cases c:1≤b
 ·rw [decide_eq_true c] at N ⊢
  rw [zbK]
  clear ha hb c
  walk_at "ev"
 ·rw [decide_eq_false c] at N ⊢
  rw [Bool.false_and]
  clear ha hb c
  walk_at "ev"
open PySem PySem.Spec PyProof.Rows L2 TM Qm Rq
def C:Nat:=2^1900
theorem T4:C*C+C*C<B:=.c
theorem CB:C<B:=.c
theorem ltB {a:Int}(h:a.natAbs<C):a.natAbs<B:=zaS h CB
theorem mulC {a b:Int}(ha:a.natAbs<C)(hb:b.natAbs<C):(a*b).natAbs<C*C:=by
 rw [zaZ]
 exact Nat.mul_lt_mul'' ha hb
theorem R8 {a b c d:Int}(ha:a.natAbs<C)(hb:b.natAbs<C)(U:c.natAbs<C)(hd:d.natAbs<C):(a*b+c*d).natAbs<B:=by
 have h1:=mulC ha hb
 have h2:=mulC U hd
 have W:=T4
 omega
theorem iO {a g:Int}(h:g∣a)(M:g≠0):(a.fdiv g).natAbs≤a.natAbs:=by
 obtain⟨x,rfl⟩:=h
 rw [Int.mul_fdiv_cancel_left x M,zaZ]
 exact Nat.le_mul_of_pos_left _ .e
structure Fr (a b:Int):Prop where
 pos:0<b
 cop:jW a b
 ba:a.natAbs<C
 bb:b.natAbs<C
theorem rL {a b:Int}(h:0<b):B0 a b=.tup [.int (a.fdiv (Int.gcd a b)),.int (b.fdiv (Int.gcd a b))]:=by
 unfold B0 sg
 rw [if_neg .e]
noncomputable def two:List T->Option (Int×Int×Int×Int)
 |[.tup .dw,.tup [.int c,.int d]]=>some (a,b,c,d)
 |_=>none
theorem Oq {ts:List T}{a b c d:Int}(h:two ts=some (a,b,c,d)):ts=[.tup .dw,.gh]:=by
 unfold two at h
 split at h
 ·cases h;rfl
 ·cases h
open Classical in
noncomputable def Kx (C:Int->Int->Int->Int->Bool)(g:Int->Int->Int->Int->T):List T->Option T:=fun ts=>(two ts).bind fun p=>if Fr p.1 p.2.1/\Fr p.2.2.1 p.2.2.2/\C p.1 p.2.1 p.2.2.1 p.2.2.2=true then some (g p.1 p.2.1 p.2.2.1 p.2.2.2) else none
theorem AA {C:Int->Int->Int->Int->Bool}{g:Int->Int->Int->Int->T}{ts:List T}{t:T}(h:Kx C g ts=some t):∃a b c d,ts=[.tup .dw,.gh]/\Fr a b/\Fr c d/\C a b c d=true/\t=g a b c d:=by
 obtain⟨⟨a,b,c,d⟩,e,h⟩:=bind_some h
 dsimp only at h
 split at h
 ·next k=>cases h;exact⟨a,b,c,d,Oq e,k.1,k.2.1,k.2.2,rfl⟩
 ·cases h
theorem DM {C:Int->Int->Int->Int->Bool}{g:Int->Int->Int->Int->T}{a b c d:Int}(h1:Fr a b)(h2:Fr c d)(W:C a b c d=true):Kx C g [.tup .dw,.gh]=some (g a b c d):=.ap ⟨h1,h2,W⟩
abbrev Kv:=Kx (fun _ _ _ _=>true) fun a b c d=>B0 (a*d+c*b) (b*d)
abbrev RA:=Kx (fun _ _ _ _=>true) fun a b c d=>B0 (a*c) (b*d)
def cm (q:Rat):T:=.tup [.int q.num,.int (q.den:Int)]
theorem rM {a b:Int}(hb:0<b):B0 a b=cm (Rat.divInt a b):=by
 have hs:b.sign=1:=Int.sign_eq_one_of_pos hb
 have M:(Int.gcd b a:Int)=.d4:=by rw [Int.gcd_comm]
 rw [rL hb]
 unfold cm
 rw [Rat.num_divInt,Rat.den_divInt,if_neg .e,hs,Int.one_mul,M,zbf _ .e,zbf _ .e]
 congr 3
 rw [Int.natCast_ediv,zbW .e,M]
structure Sm (q:Rat):Prop where
 n:q.num.natAbs<C
 d:q.den<C
theorem Sm.fr {q:Rat}(h:Sm q):Fr q.num q.den:=⟨by have:=q.den_nz;omega,by
 have:=q.reduced
 show Int.gcd q.num q.den=1
 exact this,h.n,by have:=h.d;omega⟩
theorem gK (q:Rat):Rat.divInt q.num q.den=q:=Rat.num_divInt_den q
theorem den_pos (q:Rat):(0:Int)<(q.den:Int):=by have:=q.den_nz;omega
theorem add_eq (x y:Rat):B0 (x.num*y.den+y.num*x.den) (x.den*y.den)=cm (x+y):=by
 rw [rM (zb2 (den_pos x) (den_pos y))]
 congr 1
 rw [<- Rat.divInt_add_divInt _ _ (Int.ne_of_gt (den_pos x)) (Int.ne_of_gt (den_pos y)),gK,gK]
theorem mul_eq (x y:Rat):B0 (x.num*y.num) (x.den*y.den)=cm (x*y):=by
 rw [rM (zb2 (den_pos x) (den_pos y))]
 congr 1
 rw [<- Rat.divInt_mul_divInt,gK,gK]
theorem Mj {x y:Rat}(hx:Sm x)(R:Sm y):Kv [cm x,cm y]=some (cm (x+y)):=by
 have h:=DM (C:=fun _ _ _ _=>true) (g:=fun a b c d=>B0 (a*d+c*b) (b*d)) hx.fr R.fr rfl
 rw [add_eq] at h
 exact h
theorem P7 {x y:Rat}(hx:Sm x)(R:Sm y):RA [cm x,cm y]=some (cm (x*y)):=by
 have h:=DM (C:=fun _ _ _ _=>true) (g:=fun a b c d=>B0 (a*c) (b*d)) hx.fr R.fr rfl
 rw [mul_eq] at h
 exact h
abbrev PH:FG:=bS (.a 0 1)
theorem Kd (x y:T)(u v:.aB)(ρ:aE):PH (.tup [x,y]) (u::v::ρ)=some (fP x::fP y::ρ):=rfl
theorem kc {α:Type}{φ ψ:α->T}{fe:FE}{g:α->T}{ρ:aE}(hr:bE ρ=true):∀(l:List α) (u v:.aB) (acc:List T),(∀x∈l,fe (fP (φ x)::fP (ψ x)::ρ)=some (g x,fP (φ x)::fP (ψ x)::ρ))->acc.length+l.length≤sizeLine ->
  dM PH aI fe (l.map fun x=>.tup [φ x,ψ x]) (u::v::ρ) acc=some (acc++l.map g)
 |[],u,v,acc,_,_=>by simp [dM]
 |x::l,u,v,acc,h,hl=>by
  have i:.c6:=hl
  rw [zag,dM,Kd,zaa,show aI (fP (φ x)::fP (ψ x)::ρ)=some (true,fP (φ x)::fP (ψ x)::ρ) from rfl,zaa,if_pos rfl,h x zad,zaa,if_pos ⟨hr,.e⟩,
   kc hr l _ _ _ (fun z hz=>h z (.Y hz)) .cD,List.map_cons,List.append_assoc]
  rfl
theorem kq {α c:Type}(φ:α->T)(ψ:c->T):∀(r:List α) (s:List c),jf (r.map φ) (s.map ψ)=(List.zip r s).map fun p=>.tup [φ p.1,ψ p.2]
 |[],s=>by simp [jf]
 |x::r,[]=>by simp [jf]
 |x::r,y::s=>by simp [jf,kq φ ψ r s]
theorem CS:∀(n:Nat) (lo:Int),TM.upTo lo n=(List.range n).map fun (i:Nat)=>T.int (lo+i):=by
 intro n lo
 apply zca
 intro i
 by_cases h:i<n
 ·rw [uD n lo i h,za5,zb3 h];rfl
 ·rw [List.getElem?_eq_none (by rw [jA];omega),List.getElem?_eq_none .j]
theorem Bl (n:Nat):TM.upTo 0 n=(List.range n).map fun (i:Nat)=>T.int i:=by
 rw [CS]
 congr 1
 funext i
 congr 1
 omega
theorem bX {no:Nat}{cap:.D}{fi:FA}{fg:FG}{ft:FT}{fe:FE}{τ:aE}{ts us:List T}(h1:fi τ=some (ts,τ))(h2:frzAll cap τ=τ)(W:bE (.bb τ)=true)(N:dM fg ft fe ts (.bb τ) []=some us):bq no cap fi fg ft fe τ=some (.lst us,τ):=by
 unfold bq
 rw [h1,zaa]
 dsimp only
 rw [h2,if_pos W,N]
 rfl
theorem cW {fg:FG}{fb:FS}{t:T}{ts:List T}{τ τ1 τ2:aE}(h1:fg t τ=some τ1)(h2:fb τ1=some (.nx τ2)):cN fg fb (t::ts) τ=cN fg fb ts τ2:=by
 rw [cN,h1,zaa,h2]
 rfl
theorem A0 {f:FE}{τ:aE}{n:Int}(h:f τ=some (.int n,τ))(h0:0≤n)(h1:n≤1000):bQ (.ac f) τ=some (TM.upTo 0 n.toNat,τ):=by
 unfold bQ ag ar
 rw [h]
 show (if _ then _ else _)=_
 rw [if_pos .e]
theorem gy {f:FE}{τ:aE}{n:Nat}(h:f τ=some (.int n,τ))(h1:n≤1000):bQ (.ac f) τ=some ((List.range n).map fun (i:Nat)=>T.int i,τ):=by
 have e:=A0 h .e .e
 rw [zaW,Bl] at e
 exact e
theorem aB {g:.O}{f:FA}{ρ:aE}{t:T}(ts:List T)(h1:f ρ=some (ts,ρ))(h2:g ts=some t):ak g f ρ=some (t,ρ):=by
 unfold ak
 rw [h1,zaa]
 dsimp only
 rw [h2]
 rfl
theorem aS {t u:FS}{τ τ':aE}(h:t τ=some (.nx τ')):aH t u τ=u τ':=by
 unfold aH
 rw [h]
 rfl
theorem bJ {f:FE}{τ:aE}{t:T}(h:.fB):ag f ar τ=some ([t],τ):=by
 unfold ag
 rw [h]
 rfl
theorem ck {f g:FE}{τ:aE}{t u:T}(h:.fB)(h':g τ=some (u,τ)):ag f (.ac g) τ=some ([t,u],τ):=by
 unfold ag
 rw [h,zaa]
 dsimp only
 rw [h']
 rfl
theorem iz {fi:FA}{fg:FG}{fb:FS}{τ:aE}{ts:List T}{r:R}(h1:fi τ=some (ts,τ))(h2:cN fg fb ts τ=some r):fW fi fg fb τ=some r:=by
 unfold fW
 rw [h1,zaa]
 exact h2
theorem cO {f:FE}{τ τ':aE}{t:T}(h:f τ=some (t,τ')):bx f τ=some (.rt t):=by
 unfold bx
 rw [h]
 rfl
theorem qP {f g i:FE}{τ:aE}{t u v:T}(h:.fB)(h':g τ=some (u,τ))(a:i τ=some (v,τ)):ag f (.e g i) τ=some ([t,u,v],τ):=by
 have e:=ck h' a
 generalize M:ag g (.ac i)=G at *
 unfold ag
 rw [h,zaa]
 dsimp only
 rw [e]
 rfl
theorem cF {i:Nat}{f:FE}{τ τ1 τ2:aE}{t:T}(h:f τ=some (t,τ1))(h2:bF i (fC t) τ1=some (.nx τ2)):bF i f τ=some (.nx τ2):=by
 unfold bF at *
 rw [h]
 exact h2
theorem cu {m n:Nat}{fb:FS}{ts:List T}{t:T}(hl:ts.length=n)(h:fb (.B (m-n))=some (.rt t)):cj m n fb ts=some t:=by
 unfold cj
 rw [if_pos hl,h]
 rfl
theorem Ly (ts:List T)(t:T)(h:Kv ts=some t):cj 5 2 (BC ju) ts=some t:=by
 obtain⟨a,b,c,d,rfl,h1,h2,_,rfl⟩:=AA h
 clear h
 obtain⟨g,p,ba,bb⟩:=h1
 obtain⟨f,cd,o,bd⟩:=h2
 obtain⟨q1,q2,q3,q4⟩:=NR g f p cd _ _ _ rfl rfl rfl
 have v1:((.aV b):Int)∣b:=zbS b d
 have v2:((.aV b):Int)∣d:=zby b d
 have O:=iO v1 q3
 have V:=iO v2 q3
 have g1:Int.gcd b d<B:=zX (ltB bd) .e
 have m:((.aV b):Int).natAbs<B:=.e
 generalize hs:((.aV b):Int)=s at *
 have tb:(a*d.fdiv s+c*b.fdiv s).natAbs<B:=R8 ba .e o .e
 have g2:Int.gcd (a*d.fdiv s+c*b.fdiv s) s<B:=zX m q3
 have j:(.cE:Int)∣d:=Int.dvd_trans (zby _ _) v2
 have i:=iO j q4
 have k1:=ja (ltB bb) (ltB bd)
 have k2:=ja tb m
 rw [hs] at k1
 have e:B0 (a*d+c*b) (b*d)=.tup [.int ((a*d.fdiv s+c*b.fdiv s).fdiv .cE),.int (b.fdiv s*d.fdiv .cE)]:=by
  rw [rL (zb2 g f),q1,q2]
 have q:(.cE:Int).natAbs<B:=.e
 generalize hl:(.cE:Int)=l at *
 have S:=ltB ba
 have K:=ltB o
 have n:=CB
 have k:(d.fdiv s).natAbs<B:=.e
 have u:(b.fdiv s).natAbs<B:=.e
 have r:(d.fdiv l).natAbs<B:=.e
 clear q1 q2 v1 v2 O V i j p cd ba bb o bd g f hs hl g1 g2 n
 unfold cj BC
 walk_at "ev"
theorem Jf (ts:List T)(t:T)(h:RA ts=some t):cj 4 2 (xo ju) ts=some t:=by
 obtain⟨a,b,c,d,rfl,h1,h2,_,rfl⟩:=AA h
 clear h
 obtain⟨g,p,ba,bb⟩:=h1
 obtain⟨f,cd,o,bd⟩:=h2
 obtain⟨q1,q2,q3,q4⟩:=LI g f p cd _ _ rfl rfl
 have O:=iO (zbS a d) q3
 have V:=iO (zby a d) q3
 have i:=iO (zbS c b) q4
 have G:=iO (zby c b) q4
 have g1:Int.gcd a d<B:=zX (ltB bd) .e
 have g2:Int.gcd c b<B:=zX (ltB bb) .e
 have k1:=ja (ltB ba) (ltB bd)
 have k2:=ja (ltB o) (ltB bb)
 have e:B0 (a*c) (b*d)=.tup [.int (a.fdiv (.aV a)*c.fdiv (.aH c)),.int (b.fdiv (.aH c)*d.fdiv (.aV a))]:=by
  rw [rL (zb2 g f),q1,q2]
 have m:((.aV a):Int).natAbs<B:=.e
 have q:((.aH c):Int).natAbs<B:=.e
 generalize ((.aV a):Int)=l at *
 generalize ((.aH c):Int)=r at *
 have n:=CB
 have S:(a.fdiv l).natAbs<B:=.e
 have K:(d.fdiv l).natAbs<B:=.e
 have k:(c.fdiv r).natAbs<B:=.e
 have u:(b.fdiv r).natAbs<B:=.e
 clear q1 q2 O V i G p cd ba bb o bd g f g1 g2 n
 unfold cj xo
 walk_at "ev"
theorem uE {i:Nat}{τ:aE}{t:T}(h:τ[i]? = some (fP t)):ae i τ=some (t,τ):=by unfold ae;rw [h]
theorem ma {i:Nat}{f:FE}{τ:aE}{ts:List T}{t:T}(h:τ[i]? = some (.s ts))(hf:.fB)(hl:ts.length<sizeLine):eQ i f τ=some (.nx (τ.set i (.s (ts++[t])))):=by
 unfold eQ
 rw [h]
 dsimp only
 rw [hf,zaa]
 dsimp only
 rw [h]
 dsimp only
 rw [if_pos hl]
theorem MF {f:FE}{g:FA}{τ τ1 τ2:aE}{t:T}{ts:List T}(h1:f τ=some (t,τ1))(h2:g τ1=some (ts,τ2)):ag f g τ=some (t::ts,τ2):=by
 unfold ag
 rw [h1,zaa,h2]
 rfl
theorem Sw {f g:FE}{τ:aE}{a b:Nat}(h1:f τ=some (bf a,τ))(h2:g τ=some (bf b,τ)):du (au Fd f g) τ=some (decide (a<b),τ):=by
 unfold du au
 rw [h1,zaa]
 dsimp only
 rw [h2,zaa]
 show some (decide ((a:Int)<(b:Int)),τ)=_
 congr 2
 simp only [Int.ofNat_lt]
theorem wd {N d:Int}(hd:¬ d=0)(bd:d.natAbs<B):fK (.af N) (.af d)=some (.af (N.fdiv d)):=.ap ⟨hd,bd⟩
theorem kl {a b:Int}(h1:a.natAbs<B)(h2:b.natAbs<B):cL (.af a) (.af b)=some (.af (a*b)):=.ap ⟨h1,h2⟩
theorem mC {N d:Int}(hd:¬ d=0):dU (.af N) (.af d)=some (.af (N.fmod d)):=if_pos hd
theorem fL {c:FT}{s:FS}{τ τ':aE}(h:c τ=some (false,τ')):dA c s bY τ=some (.nx τ'):=by
 unfold dA
 rw [h]
 rfl
theorem Fv {C:Addr}{d:.f8}{g:FA}{τ τ':aE}{ts:List T}{r:uM}(h1:g τ=some .gS)(h2:d ts=some r):mj C d g τ=some (.obj C r.1 r.2,τ'):=by
 unfold mj
 rw [h1,zaa]
 dsimp only
 rw [h2]
 rfl
theorem qa {alts:List .aW}{m:Str}{fo:FE}{g:FA}{τ τ1 τ2:aE}{C:Addr}{ns:.V}{ts qs:List T}{d:.O}{t:T}(h:fo τ=some (.obj C ns ts,τ1))(hm:¬ m∈ns)(hf:qF C alts=some d)(M:g τ1=some (qs,τ2))(hd:d (.obj C ns ts::qs)=some t):cv alts m fo g τ=some (t,τ2):=by
 unfold cv
 rw [h,zaa]
 dsimp only
 rw [if_neg hm,hf,zaa,M,zaa]
 dsimp only
 rw [hd]
 rfl
theorem OY {f g i l:FE}{τ:aE}{t u v x:T}(h1:.fB)(h2:g τ=some (u,τ))(W:i τ=some (v,τ))(N:l τ=some (x,τ)):ag f (ag g (.e i l)) τ=some ([t,u,v,x],τ):=MF h1 (qP h2 W N)
theorem jt {f:FA}{τ τ':aE}{ts:List T}(h:f τ=some .gS)(hl:ts.length≤1000):eT f τ=some (.lst ts,τ'):=by
 unfold eT
 rw [h,zaa]
 exact .ap (aR hl)
theorem xj {fa fb:FE}{τ τ':aE}(h:fa τ=some (.bl true,τ')):hU fa fb τ=fb τ':=by
 unfold hU
 rw [h]
 rfl
theorem rP (ts:List T):cJ [.lst ts]=some (.af (ts.length:Nat)):=rfl
theorem MO (a b:Nat):il (bf a) (bf b)=some (.aA (a=b)):=by
 rw [gW]
 exact congrArg (fun z=>some (T.bl z)) (decide_eq_decide.mpr .e)
theorem qJ {c1 c2:FT}{τ τ' a:aE}(h1:c1 τ=some (false,τ'))(h2:c2 τ'=some (false,a)):Dl c1 c2 τ=some (false,a):=by
 unfold Dl
 rw [h1,zaa]
 exact (if_neg zaR).trans h2
theorem Dc {a b c:Int}{fb fc:FE}{τ:aE}(hb:fb τ=some (.int b,τ))(U:fc τ=some (.int c,τ))(h1:a≤b)(h2:b≤c):ik uY uY (fC (.af a)) fb fc τ=some (.bl true,τ):=by
 unfold ik
 rw [show fC (.af a) τ=some (.int a,τ) from rfl,zaa,hb,zaa]
 rw [show uY (.af a) (.af b)=some (.aA (a≤b)) from rfl,decide_eq_true h1,zaa]
 dsimp only
 rw [U,zaa,show uY (.af b) (.af c)=some (.aA (b≤c)) from rfl,decide_eq_true h2]
 rfl
theorem GR {m n:Nat}{fb:FS}{ts:List T}{τ:aE}(hl:ts.length=n)(h:fb (.B (m-n))=some (.nx τ)):cj m n fb ts=some .non:=by
 unfold cj
 rw [if_pos hl,h]
 rfl
theorem fX {f:Str}{fe:FE}{fr:Addr->FI}{x:Addr}{τ:aE}{ns:.V}{us:List T}{t:T}(h:fe τ=some (t,τ))(ha:bE τ=true)(hn:¬ f∈ns/\ns.length<999)(h0:τ[0]? = some (fP .hK)):lN f fe fr x τ ns us=fr x τ (ns++[f]) (us++[t]):=by
 unfold lN
 rw [h,zaa]
 dsimp only
 rw [.ap ⟨ha,hn⟩,h0]
 exact .eZ
def pM (l:.D):Prop:=∀c∈l,c<128
theorem TL {l:.D}(h:pM l):PyData.strOk (S l)=true:=by
 unfold PyData.strOk
 simp [S]
 exact fun x hx=>zaS (h x hx) .f
theorem ur {l:.D}(h:pM l):SeqAt.shaped (.str (S l))=true:=by simp [SeqAt.shaped,PyData.canLay0,PyData.depth,TL h]
theorem Mw {a b:.D}:(S a=S b) ↔ a=b:=⟨C3,fun h=>by rw [h]⟩
theorem Hj {a b:.D}(ha:pM a)(hb:pM b):il (tx a) (tx b)=some (.aA (a=b)):=by
 show zV false (.str (S a)) (.str (S b))=_
 have e:(S a == S b)=decide (a=b):=by rw [Bool.eq_iff_iff,beq_iff_eq,decide_eq_true_eq,Mw]
 simp [zV,zy,PyData.eqv,ur ha,ur hb,e]
theorem MZ {a b:.D}(ha:pM a)(hb:pM b):xS (tx a) (tx b)=some (.bl (!decide (a=b))):=by
 show zV true (.str (S a)) (.str (S b))=_
 have e:(S a == S b)=decide (a=b):=by rw [Bool.eq_iff_iff,beq_iff_eq,decide_eq_true_eq,Mw]
 simp [zV,zy,PyData.eqv,ur ha,ur hb,e]
abbrev zu:List T->Option T:=cj 2 2 jg
theorem jq (ns:.eg)(k:Nat):zu [.scr (ns.map T.int),bf k]=some (.af (ns.getD k 0)):=by
 have hl:ak cJ (bI 0) .dV=some (.int (ns.length:Nat),.dV):=aB [.scr (ns.map T.int)] .aV (by
  show some (T.int ((ns.map T.int).length:Nat))=_
  rw [zaf])
 have Y:=Sw (f:=ae 1) (g:=ak cJ (bI 0)) (τ:=.dV) (a:=k) (b:=ns.length) rfl hl
 refine .dQ
 show jg .dV=_
 unfold jg
 by_cases h:k<ns.length
 ·have e:=Kp (ns:=ns) (k:=(k:Nat)) .e .e
  rw [zaW] at e
  unfold aH dA
  rw [Y,zaa]
  dsimp only
  rw [.ap (decide_eq_true h),cO (aQ (g:=br) (f1:=ae 0) (f2:=ae 1) rfl rfl e)]
  rfl
 ·rw [aS (fL (by rw [Y,decide_eq_false h]))]
  rw [zaD,List.getElem?_eq_none .e]
  rfl
abbrev nt (l:.D):T:=.lst (l.map fun d=>bf d)
noncomputable def Below:List Nat->List Nat->Prop
 |[],[]=>True
 |d::ds,b::bs=>d<b/\Below ds bs
 |_,_=>False
def LO (bs:.D):Prop:=∀b∈bs,0<b/\b<B
theorem Below.len:∀{ds bs:.D},Below ds bs->ds.length=bs.length
 |[],[],_=>rfl
 |_::ds,_::bs,h=>by rw [zaj,zaj,Below.len h.2]
 |[],_::_,h=>h.elim
 |_::_,[],h=>h.elim
theorem ki (c:Int){b:Nat}(h:0<b):∃d:Nat,c.fmod (b:Int)=(d:Nat)/\d<b:=by
 have hb:(0:Int)<(b:Int):=.e
 have h0:=Int.fmod_nonneg_of_pos c hb
 have h1:=Int.fmod_lt_of_pos c hb
 exact⟨(c.fmod (b:Int)).toNat,.e,.e⟩
abbrev Q9:List T->Option T:=cj 5 2 gS
def Rm:FS:=aH (eQ 2 (.c dU 3 4)) (bF 3 (.c fK 3 4))
theorem Dg (c:Int)(L:T):∀(bs:.D) (l:Int) (ts:List T) (u:.aB),LO bs->ts.length+bs.length≤1000->∃(ds:.D) (f:Int) (w:.aB),cN (ai 4) Rm (bs.map fun b=>bf b) [.e c,s L,.o ts,.e l,u]
  = some (.nx [.e c,s L,.o (ts++ds.map fun d=>bf d),.e f,w])/\Below ds bs
 |[],l,ts,u,_,_=>⟨[],l,u,by simp [cN],trivial⟩
 |b::bs,l,ts,u,hb,hl=>by
  have h0:=hb b zad
  obtain⟨d,e1,e2⟩:=ki l h0.1
  obtain⟨ds,f,w,h1,h2⟩:=Dg c L bs (l.fdiv b) (ts++[bf d]) (s (bf b)) (fun x hx=>hb x (.Y hx)) (by rw [List.length_append];simp at hl ⊢;omega)
  refine⟨d::ds,f,w,?_,e2,h2⟩
  have hz:ts.length<sizeLine:=bN (by simp at hl;omega)
  have m:dU (.af l) (bf b)=some (bf d):=by rw [mC .e,e1]
  have q:fK (.af l) (bf b)=some (.af (l.fdiv b)):=wd .e (by simpa using h0.2)
  have hB:Rm [.e c,s L,.o ts,.e l,.j b]=some (.nx [.e c,s L,.o (ts++[bf d]),.e (l.fdiv b),.j b]):=by
   unfold Rm
   rw [aS (ma (ts:=ts) (t:=bf d) rfl (.q m) hz)]
   exact cF (.q q) rfl
  rw [zag,cW rfl hB,h1]
  simp
theorem EW (c:Int){bs:.D}(hb:LO bs)(hl:bs.length≤1000):∃ds:List Nat,Q9 [.int c,nt bs]=some (nt ds)/\Below ds bs:=by
 obtain⟨ds,f,w,h1,h2⟩:=Dg c (nt bs) bs c [] none hb (by simpa using hl)
 refine⟨ds,cu rfl ?_,h2⟩
 show gS [.e c,s (nt bs),none,none,none]=_
 have e:gS=aH (bK 2 ar) (aH (bF 3 (ae 0)) (aH (fW (aX (ae 1)) (ai 4) Rm) (.a1 2))):=rfl
 rw [e,aS (show bK 2 ar [.e c,s (nt bs),none,none,none]=some (.nx [.e c,s (nt bs),.dv,none,none]) from rfl),aS (show bF 3 (ae 0) [.e c,s (nt bs),.dv,none,none]=some (.nx [.e c,s (nt bs),.dv,.e c,none]) from rfl),aS (iz rfl h1)]
 rfl
abbrev O8:List T->Option T:=cj 5 2 iH
noncomputable def RC:FS:=(aH (bF 3 (.i dU .eE 2147483647))
  (eQ 2 (au fK (au dU (au cL (ae 3) (ae 3)) (aF 2147483587)) (aF 3))))
theorem DN (c n:Int):∀(ks:.D) (l:Int) (ts:List T) (u:.aB),(∀k∈ks,k≤1000)->(0≤l/\l<2147483647)->ts.length+ks.length≤1000->∃(a:.eg) (f:Int) (w:.aB),cN (ai 4) RC (ks.map fun k=>bf k) [.e c,.e n,.o ts,.e l,u]
  = some (.nx [.e c,.e n,.o (ts++a.map T.int),.e f,w])/\a.length=ks.length
 |[],l,ts,u,_,_,_=>⟨[],l,u,by simp [cN],rfl⟩
 |k::ks,l,ts,u,hk,h0,hl=>by
  have d:=hk k zad
  have r:=nU
  have r1:=zT (l*48271+7919*(k:Int)+1) (b:=2147483647) .f
  have e1:au dU .eE (aF 2147483647) [.e c,.e n,.o ts,.e l,.j k]=some (.int ((l*48271+7919*(k:Int)+1).fmod 2147483647),[.e c,.e n,.o ts,.e l,.j k]):=
   aQ (aQ (aQ (.q (kl .e .e)) (.q (kl .e .e)) eJ) rfl eJ) rfl (mC .f)
  generalize (l*48271+7919*(k:Int)+1).fmod 2147483647=l1 at *
  obtain⟨a,f,w,h1,h2⟩:=DN c n ks l1 (ts++[.int (((l1*l1).fmod 2147483587).fdiv 3)]) .ca (fun x hx=>hk x (.Y hx)) r1 (by rw [List.length_append];simp at hl ⊢;omega)
  refine⟨((l1*l1).fmod 2147483587).fdiv 3::a,f,w,?_,by simp [h2]⟩
  have hz:ts.length<sizeLine:=bN (by simp at hl;omega)
  have hB:RC [.e c,.e n,.o ts,.e l,.j k]=some (.nx [.e c,.e n,.o (ts++[.int (((l1*l1).fmod 2147483587).fdiv 3)]),.e l1,.j k]):=by
   unfold RC
   rw [aS (cF e1 rfl)]
   exact ma (ts:=ts) rfl (aQ (aQ (.q (kl .e .e)) rfl (mC .f)) rfl (wd .f .e)) hz
  rw [zag,cW rfl hB,h1]
  simp
theorem GZ (c:Int)(n:Nat)(hn:n≤900):∃a:List Int,O8 [.int c,bf n]=some (.al (a.map T.int))/\a.length=n:=by
 have d:=zT c (b:=2147483629) .f
 obtain⟨a,f,w,h1,h2⟩:=DN c (n:Nat) (.a4 n) (c.fmod 2147483629+17) [] none (fun k hk=>by have:=List.mem_range.mp hk;omega) .e .j
 refine⟨a,cu rfl ?_,by rw [h2,zbc]⟩
 show iH [.e c,.j n,none,none,none]=_
 have e:iH=aH (bK 2 ar) (aH (bF 3 (.Q (.a dU 0 2147483629) (aF 17))) (aH (fW (bQ (bI 1)) (ai 4) RC) (.a1 2))):=rfl
 rw [e,aS (show bK 2 ar [.e c,.j n,none,none,none]=some (.nx [.e c,.j n,.dv,none,none]) from rfl),aS (cF (τ1:=[.e c,.j n,.dv,none,none]) (τ2:=[.e c,.j n,.dv,.e (c.fmod 2147483629+17),none]) (aQ (.q (mC .f)) rfl eJ) rfl),aS (iz (gy rfl .e) h1)]
 rfl
abbrev uO:List T->Option T:=cj 2 2 (iG Q9 O8)
theorem xg (f:Int->Nat->Nat)(hf:∀m b,0<b->f m b<b):∀(a:.eg) (bs:.D),a.length=bs.length->LO bs->Below ((List.zip a bs).map fun p=>f p.1 p.2) bs
 |[],[],_,_=>trivial
 |m::a,b::bs,h,hb=>⟨hf m b (hb b List.mem_cons_self).1,xg f hf a bs .an fun x hx=>hb x (.Y hx)⟩
 |[],_::_,h,_=>by cases h
 |_::_,[],h,_=>by cases h
theorem kg (c:Int){bs:.D}(hb:LO bs)(hl:bs.length≤900):∃ds:List Nat,uO [.int c,nt bs]=some (nt ds)/\Below ds bs:=by
 have hlen:cJ [nt bs]=some (.af (bs.length:Nat)):=by
  show some (T.int ((bs.map _).length:Nat))=_
  rw [zaf]
 have h2:au il (.a dU 0 2) (aF 1) .dG=some (.bl (decide (c.fmod 2=1)),.dG):=aQ (.q (mC .f)) rfl (gW _ _)
 have hd:au fK (ae 0) (aF 2) .dG=some (.int (c.fdiv 2),.dG):=aQ rfl rfl (wd .f (by have:=nU;omega))
 have U:∃ds:List Nat,iG Q9 O8 .dG=some (.rt (nt ds))/\Below ds bs:=by
  unfold iG
  by_cases h:c.fmod 2=1
  ·obtain⟨ds,e1,e2⟩:=EW (c.fdiv 2) hb .e
   refine⟨ds,?_,e2⟩
   unfold aH dA
   rw [show du (au il (.a dU 0 2) (aF 1)) .dG=some (decide (c.fmod 2=1),.dG) by unfold du;rw [h2];rfl,Option.bind_some]
   dsimp only
   rw [.ap (decide_eq_true h),cO (aB _ (ck hd rfl) e1)]
   rfl
  ·obtain⟨ms,e1,e2⟩:=GZ (c.fdiv 2) bs.length hl
   refine⟨(List.zip ms bs).map fun p=>(p.1.fmod (p.2:Int)).toNat,?_,xg (fun m b=>(m.fmod (b:Int)).toNat) (fun m b hb=>by
    obtain⟨d,q1,q2⟩:=ki m hb
    show (m.fmod (b:Int)).toNat<b
    omega) ms bs e2 hb⟩
   rw [aS (fL (by show du _ _=_;unfold du;rw [h2];show some (decide (c.fmod 2=1),_)=_;rw [decide_eq_false h]))]
   refine cO (bX (ts:=(List.zip ms bs).map fun p=>.tup [.int p.1,.int (p.2:Nat)]) ?_ rfl rfl ?_)
   ·have g1:ag (ak O8 (.e (.a fK 0 2) (.l cJ 1))) (bI 1) .dG=some ([.lst (ms.map T.int),nt bs],.dG):=ck (aB _ (ck hd (.am hlen)) e1) rfl
    unfold hV
    rw [g1,zaa]
    show some (jf (ms.map T.int) (bs.map fun d=>bf d),_)=_
    rw [kq]
   ·rw [show (List.map (fun d=>bf d) (List.map (fun p:Int×Nat=>(p.1.fmod (p.2:Int)).toNat) (List.zip ms bs)))=[]++(List.zip ms bs).map (fun p=>T.int (((p.1.fmod (p.2:Int)).toNat:Nat):Int)) by simp]
    refine kc (φ:=fun p:Int×Nat=>T.int p.1) (ψ:=fun p=>T.int (p.2:Nat)) rfl _ _ _ _ (fun p hp=>?_) (by rw [zbw,Nat.zero_add,za1];exact aR .e)
    have F:=hb p.2 (zaB hp).2
    obtain⟨d,q1,q2⟩:=ki p.1 F.1
    refine aQ rfl rfl ?_
    rw [mC .e,q1]
    rfl
 obtain⟨ds,e1,e2⟩:=U
 exact⟨ds,cu rfl e1,e2⟩
theorem pF:∀ls:List .bL,strsOf .e8=some .hw
 |[]=>rfl
 |l::ls=>by
  show (strsOf .e8).bind _=_
  rw [pF ls]
  rfl
theorem BI (l:.D):cs (S l)=l:=ei l
theorem HP (ls:.R):(ls.map S).map cs=ls:=by rw [zaC,show cs ∘ S=id from funext BI,List.map_id]
theorem Cm (c:Nat)(ls:.R):Txt.join (S [c]) .hw=S (jl c ls):=by
 refine BJ ?_
 rw [show S [c]=one c from rfl,Bk,rE,HP,BI]
theorem wA:∀ls:List .bL,cs ((S []).join .hw)=ls.flatten
 |[]=>rfl
 |[p]=>by
  rw [zag,List.map_nil,Str.join.eq_2,BI,zaX,List.flatten_nil,zaA]
 |p::q::r=>by
  have A:=wA (q::r)
  rw [zag] at A
  rw [zag,zag,Str.join.eq_3 _ _ _ (fun h=>by cases h),xD,xD,A,BI,BI]
  simp
theorem Nb (ls:.R):Txt.join (S []) .hw=S ls.flatten:=by
 refine BJ ?_
 show cs (Builtin.Str.glued (S []) .hw)=_
 rw [StrLaws.glued_eq_join,wA,BI]
def oA (ls:.R):Nat:=(ls.map (·.length)).sum
theorem CJ (ls:.R):((ls.map S).map (·.length)).sum=oA ls:=by
 unfold oA
 rw [zaC]
 congr 1
theorem pG {m:Nat}:∀{ls:.R},(∀l∈ls,l.length≤m)->oA ls≤ls.length*m
 |[],_=>za4 _
 |l::ls,h=>by
  have:=pG (ls:=ls) fun x hx=>h x (.aT hx)
  have h1:=h l zad
  unfold oA at this ⊢
  rw [zag,List.sum_cons,zaj,Nat.succ_mul]
  omega
theorem M9 (c:Nat){ls:.R}(h:oA ls+ls.length≤16777216):dG (tx [c]) (.al .e8)=some (tx (jl c ls)):=by
 show (strsOf _).bind _=_
 rw [pF,Option.bind_some,CJ,cH,if_pos .an,Cm]
theorem Na (c:Nat){ls:.R}(h:oA ls+ls.length≤16777216):dG (tx [c]) (.tup .e8)=some (tx (jl c ls)):=by
 show (strsOf .e8).bind _=_
 rw [pF,Option.bind_some,CJ,List.length_map,cH,if_pos .an,Cm]
theorem DI {ls:.R}(h:oA ls≤16777216):dG .fw (.al .e8)=some (tx ls.flatten):=by
 show (strsOf .e8).bind _=_
 rw [pF,Option.bind_some,CJ,List.length_map,zi,cH,if_pos .an,Nb]
def uN (l:.D):Prop:=l≠[]/\l.length≤8/\∀c∈l,97≤c/\c≤122
theorem uN.asc {l:.D}(h:uN l):pM l:=fun c U=>by have:=h.2.2 c U;omega
theorem Kt:(Str.ofString "abcdefghijklmnopqrstuvwxyz").length=26:=.c
theorem P6:Str.ofString "abcdefghijklmnopqrstuvwxyz" = S ((List.range 26).map (97+·)):=.c
theorem Nj {i:Nat}(h:i<26):br .z (bf i)=some (tx [97+i]):=by
 show (if (Str.ofString "abcdefghijklmnopqrstuvwxyz").length≤sizeLine then _ else none)=_
 rw [.ap (by rw [Kt];exact aR .f),P6,ei,rB (v:=97+i) (by rw [za5,zb3 h];rfl)]
 rfl
theorem zR (f:Nat->Nat):∀l:List Nat,(l.map fun j=>[f j]).flatten=l.map f
 |[]=>rfl
 |a::l=>by rw [zag,zaX,zR f l];rfl
theorem Below.get:∀{ds bs:.D} {i:Nat},Below ds bs->i<bs.length->ds.getD i 0<bs.getD i 0
 |[],[],_,_,h=>by cases h
 |d::ds,b::bs,0,h,_=>h.1
 |d::ds,b::bs,i+1,h,hi=>by
  have:=Below.get (i:=i) h.2 .dq
  simpa using this
 |[],_::_,_,h,_=>h.elim
 |_::_,[],_,h,_=>h.elim
theorem DQ {l:.D}{i:Nat}(h:i<l.length):br (nt l) (bf i)=some (.af (l.getD i 0:Nat)):=by
 show zr (l.map fun d=>bf d) (i:Int)=_
 rw [rB (v:=.int (l.getD i 0:Nat)) (by rw [za5,zas h,zaD,zas h];rfl)]
noncomputable def tL (tail:.D)(sz a k:Nat):List Nat:=(List.range sz).map fun j=>97+(tail.getD j 0+k*(if j=a then 1 else 0))%26
theorem Ia {tail:.D}{sz a k:Nat}(h0:0<sz)(o:sz≤8):uN (tL tail sz a k):=by
 unfold tL
 refine⟨fun e=>?_,by simpa using o,fun c U=>?_⟩
 ·have:=congrArg List.length e
  simp at this
  omega
 ·obtain⟨j,_,rfl⟩:=zah.mp U
  have:=za9 (tail.getD j 0+k*(if j=a then 1 else 0)) (show 0<26 by decide)
  omega
theorem HZ {tail:.D}{sz a i j:Nat}(ha:a<sz)(hi:i<26)(S:j<26)(h:tL tail sz a i=tL tail sz a j):i=j:=by
 have e:=congrArg (fun l:List Nat=>l[a]?) h
 unfold tL at e
 simp [List.getElem?_range ha] at e
 omega
noncomputable def RD:FS:=(aH (cU 8 1 [2,5,7,4] (bQ (bI 3)) (ai 0) aI .aR)
  (eQ 6 (au dG (fC .fw) (ae 8))))
noncomputable abbrev HY (c n:Int)(sz a:Nat)(tail:.D)(ts:List T)(O G:.aB):aE:=[.e c,.e n,s .z,.j sz,.j a,s (nt tail),.o ts,O,G]
theorem KH (c n:Int){sz a k:Nat}{tail:.D}(o:sz≤8)(Y:tail.length=sz)(hk:k≤100)(ts:List T)(G:.aB)(hl:ts.length<1000):
  ∃us,RD (.be G)=some (.nx (HY c n sz a tail (ts++[tx (tL tail sz a k)]) .ca (fP (.al us)))):=by
 have hz:ts.length<sizeLine:=bN .e
 have U:dM (ai 0) aI .aR ((List.range sz).map fun (j:Nat)=>T.int j) .em []=some ([]++(List.range sz).map fun j=>tx .bE):=by
  refine bP rfl _ _ _ (fun j S=>?_) .az
  have S:=zaL.mp S
  have e1:au br (ae 2) (ae 0) .eo=some (.int (tail.getD j 0:Nat),.eo):=aQ rfl rfl (DQ .e)
  have e2:ak gn (.ac (.c il 0 4)) .eo=some (.int ((if j=a then 1 else 0:Nat):Int),.eo):=by
   refine aB [.bl (decide (j=a))] (bJ (aQ rfl rfl (by rw [gW];congr 2;exact decide_eq_decide.mpr .e))) ?_
   by_cases h:j=a
   ·rw [if_pos h,decide_eq_true h];rfl
   ·rw [if_neg h,decide_eq_false h];rfl
  have hq:(if j=a then 1 else 0:Nat)≤1:=by split<;>omega
  generalize (if j=a then 1 else 0:Nat)=q at *
  have r:=nU
  refine aQ rfl (aQ (aQ e1 (aQ rfl e2 (kl .e .e)) eJ) rfl (mC .f)) ?_
  have e3:((tail.getD j 0:Nat):Int)+(k:Int)*(q:Int)=((tail.getD j 0+k*q:Nat):Int):=.h
  rw [e3,show ((tail.getD j 0+k*q:Nat):Int).fmod 26=(((tail.getD j 0+k*q)%26:Nat):Int) by rw [za3 _ .f];rfl]
  exact Nj (za9 _ .f)
 refine⟨(List.range sz).map fun j=>tx .bE,?_⟩
 have S:dG .fw (.al ((List.range sz).map fun j=>tx .bE))=some (tx (tL tail sz a k)):=by
  have:=DI (ls:=(List.range sz).map fun j=>[97+(tail.getD j 0+k*(if j=a then 1 else 0))%26]) (by
   refine Nat.le_trans (pG (m:=1) fun l hl=>?_) .j
   obtain⟨j,_,rfl⟩:=zah.mp hl
   exact zap _)
  rw [zaC,zR (fun j=>97+(tail.getD j 0+k*(if j=a then 1 else 0))%26)] at this
  exact this
 have hr:bQ (bI 3) (.be G)=some ((List.range sz).map fun (j:Nat)=>T.int j,HY c n sz a tail ts .ca G):=gy rfl .e
 have h1:cU 8 1 [2,5,7,4] (bQ (bI 3)) (ai 0) aI .aR (.be G)
   = some (.nx (.be (.s ((List.range sz).map fun j=>tx .bE)))):=by
  unfold cU
  rw [hr,zaa]
  show (if bE .em=true then (dM _ _ _ _ .em []).bind _ else none)=_
  rw [if_pos (show bE .em=true from rfl)]
  dsimp only
  rw [U]
  rfl
 unfold RD
 rw [aS h1]
 generalize (List.range sz).map (fun j=>tx .bE)=us at *
 generalize tL tail sz a k=z at *
 clear U hr h1
 unfold eQ au fC
 show ((((some (T.lst us,HY c n sz a tail ts .ca (fP (.al us))):Option (T×aE)).bind fun q=>(dG .fw q.1).bind fun t=>some (t,q.2))).bind _)=_
 rw [zaa]
 dsimp only
 rw [S]
 show (if ts.length<sizeLine then _ else none)=_
 rw [if_pos hz]
 rfl
theorem DP (c n:Int){sz a:Nat}{tail:.D}(o:sz≤8)(Y:tail.length=sz):∀(ks:.D) (ts:List T) (O G:.aB),(∀k∈ks,k≤100)->ts.length+ks.length≤900->∃h f,cN (ai 7) RD (ks.map fun k=>bf k) (HY c n sz a tail ts O G)=some (.nx (HY c n sz a tail (ts++ks.map fun k=>tx (tL tail sz a k)) h f))
 |[],ts,O,G,_,_=>⟨O,G,by simp [cN]⟩
 |k::ks,ts,O,G,hk,hl=>by
  rw [zaj] at hl
  obtain⟨us,h1⟩:=KH c n o Y (hk k zad) ts G .e
  obtain⟨h,f,h2⟩:=DP c n o Y ks (ts++[tx (tL tail sz a k)]) .ca (fP (.al us)) (fun x hx=>hk x (.aT hx)) .a5
  refine⟨h,f,?_⟩
  rw [zag,cW (τ1:=HY c n sz a tail ts .ca G) rfl h1,h2]
  simp
theorem Dw {ts:List T}{k:Int}(h1 : -(2^63)≤k)(h2:k<2^63)(W:ts.length*k.toNat≤sizeLine):xT .dn (.af k)=some (.aw ts):=.ap ⟨⟨h1,h2⟩,W⟩
abbrev L1:List T->Option T:=cj 9 2 (iI uO)
theorem C9 {n b:Nat}(h0:0<b)(hb:b<B):LO (List.replicate n b):=fun x hx=>by rw [List.eq_of_mem_replicate hx];exact⟨h0,hb⟩
theorem Ih (n b:Nat):(T.lst (List.replicate n [bf b]).flatten)=nt (List.replicate n b):=by
 congr 1
 induction n with
 |zero=>rfl
 |succ n A=>rw [zaM,zaM,zaX,zag,A];rfl
theorem G0 (c:Int){n:Nat}(hn:n≤26):∃nm:Nat->List Nat,L1 [.int c,bf n]=some (.al ((List.range n).map fun k=>tx (nm k)))/\(∀k,uN (nm k))/\∀i j,i<n->j<n->nm i=nm j->i=j:=by
 obtain⟨H,l,o⟩:=ki c (b:=8) .f
 obtain⟨a,d,ha⟩:=ki (c.fdiv 8) (b:=1+H) .e
 have r:=nU
 obtain⟨tail,p,Y⟩:=kg (c.fdiv 64) (bs:=List.replicate (1+H) 26) (C9 .f .e) .j
 have hl:=Y.len
 rw [zbj] at hl
 obtain⟨h,f,h2⟩:=DP c (n:Nat) (sz:=1+H) (a:=a) (tail:=tail) .e hl (.a4 n) [] none none (fun k hk=>by have:=List.mem_range.mp hk;omega) .j
 refine⟨tL tail (1+H) a,cu rfl ?_,fun k=>Ia .e .e,fun i j hi S e=>HZ ha .e .e e⟩
 show iI uO [.e c,.j n,none,none,none,none,none,none,none]=_
 have e:iI uO=aH (bF 2 (fC .z)) (aH (bF 3 (.Q (aF 1) (.a dU 0 8))) (aH (bF 4 (au dU (.a fK 0 8) (ae 3)))
  (aH (bF 5 (ak uO .ea)) (aH (bK 6 ar) (aH (fW (bQ (bI 1)) (ai 7) RD) (.a1 6)))))):=rfl
 have s3:au aT (aF 1) (.a dU 0 8) .eH=some (.int ((1+H:Nat):Int),.eH):=aQ rfl (.q (mC .f)) (by rw [show c.fmod 8=(H:Int) from l,eJ];congr 2)
 have s4:au dU (.a fK 0 8) (ae 3) .dk=some (bf a,.dk):=aQ (.q (wd .f .e)) rfl (by rw [mC .e,d])
 have s5:ak uO .ea .dl=some (nt tail,.dl):=by
  refine aB _ (ck (.q (wd .f .e)) (aQ (jt .aV .f) rfl ?_)) p
  rw [<- Ih]
  have g:=Dw (ts:=[.int 26]) (k:=((1+H:Nat):Int)) .e .e (by rw [zaW,zau];exact aR .e)
  rw [zaW] at g
  exact g
 rw [e,aS (show bF 2 (fC .z) [.e c,.j n,none,none,none,none,none,none,none]=some (.nx .eH) from rfl),
  aS (cF (τ2:=.dk) s3 rfl),aS (cF (τ2:=.dl) s4 rfl),
  aS (cF (τ2:=[.e c,.j n,s .z,.e ((1+H:Nat):Int),.j a,s (nt tail),none,none,none]) s5 rfl),aS (show bK 6 ar [.e c,.j n,s .z,.e ((1+H:Nat):Int),.j a,s (nt tail),none,none,none]=some (.nx (HY c (n:Nat) (1+H) a tail [] none none)) from rfl),aS (iz (gy (n:=n) rfl .e) h2)]
 rfl
inductive Pt where
 |inp (n:.D) | cell (n w:.D) | gain (n:.D) (q:Rat) (w:.D) | sum (n:.D) (ts:.dD) | out (w:.D)
def Bb (b:Bool):Int:=if b then 1 else -1
abbrev jV (t:Bool×List Nat):T:=.tup [.int (Bb t.1),tx t.2]
noncomputable def Pt.law:Pt->T
 | .inp n=>.tup [.str "in", tx n]
 | .cell n w=>.tup [.str "cell", tx n,tx w]
 | .gain n q w=>.tup [.str "gain", tx n,cm q,tx w]
 | .sum n ts=>.tup [.str "sum", tx n,.tup (ts.map jV)]
 | .out w=>.tup [.str "out", tx w]
noncomputable def Pt.nm:Pt->Option .bL
 | .inp n=>some n
 | .cell n _=>some n
 | .gain n _ _=>some n
 | .sum n _=>some n
 | .out _=>none
noncomputable def Pt.ws:Pt->List .bL
 | .inp _=>[]
 | .cell _ w=>[w]
 | .gain _ _ w=>[w]
 | .sum _ ts=>ts.map (·.2)
 | .out w=>[w]
def Pt.inner:Pt->Bool
 | .gain _ _ _=>true
 | .sum _ _=>true
 |_=>false
def OU (q:Rat):Prop:=q.num.natAbs≤99/\q.den≤12
noncomputable def Pt.Ok:Pt->Prop
 | .inp n=>uN n
 | .cell n w=>uN n/\uN w
 | .gain n q w=>uN n/\uN w/\OU q
 | .sum n ts=>uN n/\(1≤ts.length/\ts.length≤4)/\∀t∈ts,uN t.2
 | .out w=>uN w
theorem xH {a b:Int}(hb:0<b):(Rat.divInt a b).num.natAbs≤a.natAbs/\(Rat.divInt a b).den≤b.natAbs:=by
 have e:=rM (a:=a) hb
 rw [rL hb] at e
 unfold cm at e
 injection e with e
 injection e with e1 e2
 injection e2 with e2 _
 injection e1 with e1
 injection e2 with e2
 have M:((.aH a):Int)≠0:=Hq .e
 have h1:=iO (a:=a) (g:=(.aH a)) (Int.gcd_dvd_left ..) M
 have h2:=iO (a:=b) (g:=(.aH a)) (Int.gcd_dvd_right ..) M
 rw [e1] at h1
 rw [e2] at h2
 exact⟨h1,.e⟩
theorem Nk {a b:Int}(ha:a.natAbs<B)(hb:b.natAbs<B)(h0:0<b):jv .dw=some (cm (Rat.divInt a b)):=by rw [HM ha hb h0,rM h0]
theorem Nm {a b:Nat}(hb:0<b):dU (bf a) (bf b)=some (.af ((a%b:Nat):Int)):=by
 rw [mC .e,za3 _ .e]
 rfl
theorem Sd {a b:Nat}(hb:0<b)(hB:b<B):fK (bf a) (bf b)=some (.af ((a/b:Nat):Int)):=by
 rw [wd .e .e,zbf _ .e]
 rfl
theorem ib {a b:Nat}:aT (bf a) (bf b)=some (.af ((a+b:Nat):Int)):=by
 rw [eJ]
 rfl
abbrev cn (ls:.R):T:=.lst .e8
theorem zk {ls:.R}{i:Nat}(h:i<ls.length):br (cn ls) (bf i)=some (tx (ls.getD i [])):=by
 show zr _ (i:Int)=_
 rw [rB (v:=tx (ls.getD i [])) (by rw [za5,zaD,zas h];rfl)]
theorem lG {ls:.R}:cJ [cn ls]=some (.af (ls.length:Nat)):=by
 show some (T.int ((ls.map tx).length:Nat))=_
 rw [zaf]
theorem MJ {ts:List T}{a b:Nat}(h:a+b≤ts.length):PF .dn (some (a:Nat)) (some ((a+b:Nat):Nat))=some (.al ((ts.drop a).take b)):=by
 show some (T.lst (pV ts (some (a:Nat)) (some ((a+b:Nat):Nat))))=_
 unfold pV
 rw [HT.pj,HT.pj,zbp h,zbp (by omega:a≤ts.length),Nat.add_sub_cancel_left]
theorem GP {ts:List T}{b:Nat}(h:b≤ts.length):PF .dn none (some (b:Nat))=some (.al (ts.take b)):=by
 show some (T.lst (pV ts none (some (b:Nat))))=_
 unfold pV
 rw [HT.pj,HT.ud,zbp h]
 simp
theorem ko {f:FA}{τ τ':aE}{ts:List T}(h:f τ=some .gS)(hl:ts.length≤1000:=by exact zai rfl):eh f τ=some (.tup ts,τ'):=by
 unfold eh
 rw [h,zaa,.ap (aR hl)]
theorem gg {f:FE}{τ τ':aE}{b:Bool}(h:f τ=some (.bl b,τ')):du f τ=some (b,τ'):=by
 unfold du
 rw [h]
 rfl
theorem Hy {c:FT}{f g:FS}{τ τ':aE}(h:c τ=some (true,τ')):dA c f g τ=f τ':=by
 unfold dA
 rw [h]
 rfl
abbrev OC:List T->Option T:=cj 5 3 (fu jv)
noncomputable def Rw:FS:=eQ 3 (eh (.e (au br (eT (ag (aF 1) (.ac .gk))) (.a dU 4 2)) (.aB (.a fK 4 2))))
def Js (ws:.R)(d:Nat):Bool×List Nat:=(decide (d%2=0),ws.getD (d/2%ws.length) [])
abbrev xX (n:.D)(dg:.D)(ws:.R)(ts:List T)(x:.aB):aE:=[.l n,s (nt dg),.aO ws,.o ts,x]
theorem Kk {n:.D}{dg:.D}{ws:.R}{ts:List T}{d:Nat}(h0:0<ws.length)(L:ws.length≤1000)(hl:ts.length<900):Rw (xX n dg ws ts .d3)=some (.nx (xX n dg ws (ts++[jV (Js ws d)]) .d3)):=by
 have r:=nU
 have e1:au br (eT (.e (aF 1) .gk)) (.a dU 4 2) (xX n dg ws ts .d3)=some (.int (Bb (decide (d%2=0))),xX n dg ws ts .d3):=by
  refine aQ (jt (ts:=[.int 1,.int (-1)]) .bv .f) (.q (Nm (b:=2) .f)) ?_
  have:d%2=0\/d%2=1:=.e
  rcases this with h | h
  ·rw [h,decide_eq_true rfl];rfl
  ·rw [h,.g5];rfl
 have e2:au br (ae 2) (au dU (.a fK 4 2) (.l cJ 2)) (xX n dg ws ts .d3)=some (tx (ws.getD (d/2%ws.length) []),xX n dg ws ts .d3):=
  aQ rfl (aQ (.q (Sd (b:=2) .f .e)) (.am lG) (Nm h0)) (zk (za9 _ h0))
 unfold Rw
 exact .a8 (ko (ck e1 e2))
theorem DB {n:.D}{dg:.D}{ws:.R}(h0:0<ws.length)(L:ws.length≤1000):∀(ds:.D) (ts:List T) (x:.aB),ts.length+ds.length≤900->∃y,cN (ai 4) Rw (ds.map fun d=>bf d) (xX n dg ws ts x)=some (.nx (xX n dg ws (ts++ds.map fun d=>jV (Js ws d)) y))
 |[],ts,x,_=>⟨x,by simp [cN]⟩
 |d::ds,ts,x,hl=>by
  rw [zaj] at hl
  obtain⟨y,h2⟩:=DB h0 L ds (ts++[jV (Js ws d)]) .d3 .a5
  refine⟨y,?_⟩
  rw [zag,cW rfl (Kk h0 L .e),h2]
  simp
theorem getD_mem {α:Type}{l:List α}{i:Nat}{d:α}(h:i<l.length):l.getD i d∈l:=by
 rw [zaD,zas h]
 exact List.getElem_mem h
theorem GY {n:.D}{dg:.D}{ws:.R}(hn:uN n)(c:∀w∈ws,uN w)(h0:0<ws.length)(L:ws.length≤900)(hd:Below dg [5,199,12,48,48,48,48]):∃p:Pt,OC [tx n,nt dg,cn ws]=some p.law/\p.Ok/\p.nm=some n/\p.inner=true/\∀w∈p.ws,w∈ws:=by
 have hl:=hd.len
 have r:=nU
 match dg,hd,hl with
 |[g,E,J,d3,m,o,z],hd,_ =>
  obtain⟨B,g1,g2,_⟩:=hd
  have f:∀(τ:aE) (i:Nat),τ[1]? = some (s (nt [g,E,J,d3,m,o,z]))->i<7->au br (ae 1) (fC (bf i)) τ=some (.int (([g,E,J,d3,m,o,z].getD i 0:Nat):Int),τ):=fun τ i h hi=>aQ (uE h) rfl (DQ (l:=[g,E,J,d3,m,o,z]) hi)
  have U:du (.i il (.S 1) 0) .bw=some (decide (g=0),.bw):=gg (aQ (f _ 0 rfl .f) rfl (by
   rw [gW]
   show some (.bc ((g:Int)=0))=_
   congr 2
   exact decide_eq_decide.mpr .e))
  by_cases hz:g=0
  ·refine⟨.gain n (Rat.divInt ((E:Int)-99) (1+(J:Int))) (ws.getD (d3%ws.length) []),cu rfl ?_,⟨hn,c _ (getD_mem (za9 _ h0)),?_⟩,rfl,rfl,fun w L=>?_⟩
   ·show fu jv .bw=_
    unfold fu
    unfold aH
    rw [Hy (by rw [U,decide_eq_true hz]),cO (ko (OY (t:=.str "gain") (u:=tx n) (v:=cm (Rat.divInt ((E:Int)-99) (1+(J:Int)))) (x:=tx (ws.getD (d3%ws.length) [])) rfl rfl ?_ ?_))]
    ·rfl
    ·refine aB _ (ck (t:=.int ((E:Int)-99)) (u:=.int (1+(J:Int))) (aQ (f _ 1 rfl .f) rfl rfl) (aQ rfl (f _ 2 rfl .f) eJ)) (Nk .e .e .e)
    ·exact aQ rfl (aQ (f _ 3 rfl .f) (.am lG) (Nm h0)) (zk (za9 _ h0))
   ·have:=xH (a:=(E:Int)-99) (b:=1+(J:Int)) .e
    exact⟨.e,.e⟩
   ·rw [zac.mp L]
    exact getD_mem (za9 _ h0)
  ·refine⟨.sum n (([d3,m,o,z].take g).map (Js ws)),cu rfl ?_,⟨hn,?_,fun t Y=>?_⟩,rfl,rfl,fun w L=>?_⟩
   ·obtain⟨y,R⟩:=DB (n:=n) (dg:=[g,E,J,d3,m,o,z]) h0 .e ([d3,m,o,z].take g) [] none .j
    have e:fu jv=aH (.G (.i il (.S 1) 0) (bx (eh (ag (fC (.str "gain")) (ag (ae 0) (.e (ak jv (ag (.i Kc (.X 1) 99) (.ac (.Q (aF 1) (.a br 1 2))))) (.aB (.a br 1 3))))))))
     (aH (bK 3 ar) (aH (fW (aX .eD) (ai 4) Rw) (bx (eh (ag (fC (.str "sum")) (.c 0 (.l ig 3))))))):=rfl
    show fu jv .bw=_
    rw [e,aS (fL (by rw [U,decide_eq_false hz])),aS (show bK 3 ar .bw=some (.nx (.aw)) from rfl)]
    have hs:qE (ae 1) (cT (aF 3)) (cT (.Q (aF 3) (.S 1))) (.aw)=some (nt ([d3,m,o,z].take g),.aw):=by
     have q1:au aT (aF 3) (.S 1) (.aw)=some (.int ((3+g:Nat):Int),.aw):=aQ rfl (f _ 0 rfl .f) (ib (a:=3))
     unfold qE cT
     rw [show ae 1 (.aw)=some (nt [g,E,J,d3,m,o,z],.aw) from rfl,zaa]
     dsimp only
     rw [show aF 3 (.aw)=some (.int ((3:Nat):Int),.aw) from rfl,zaa]
     dsimp only
     rw [zaa]
     dsimp only
     rw [q1,zaa]
     dsimp only
     rw [zaa]
     dsimp only
     rw [MJ (a:=3) (b:=g) .j]
     show some (T.lst ((List.map (fun d=>bf d) [d3,m,o,z]).take g),_)=_
     rw [<- zbX]
    have hf:aX .eD (.aw)=some (([d3,m,o,z].take g).map (fun d=>bf d),.aw):=by
     unfold aX
     rw [hs]
     rfl
    rw [aS (iz hf R),za7]
    show bx _ _=some (.rt (T.tup [.str "sum", tx n,.tup ((([d3,m,o,z].take g).map (Js ws)).map jV)]))
    rw [zaC]
    rfl
   ·rw [zaf,zaV]
    simp only [List.length_cons,List.length_nil]
    omega
   ·obtain⟨d,_,rfl⟩:=zah.mp Y
    exact c _ (getD_mem (za9 _ h0))
   ·obtain⟨t,Y,rfl⟩:=zah.mp L
    obtain⟨d,_,rfl⟩:=zah.mp Y
    exact getD_mem (za9 _ h0)
theorem oH {g:FG}{E:List T->Option Sl->aE}{fb:FS}{φ:Nat->T}{P:Nat->Prop}(M:∀ts x (k:Nat),g (bf k) (E ts x)=some (E ts .ca))(hb:∀ts k,P k->ts.length<900->fb (E ts .ca)=some (.nx (E (ts++[φ k]) .ca))):
  ∀(ks:.D) (ts:List T) (x:.aB),(∀k∈ks,P k)->ts.length+ks.length≤900->∃y,cN g fb (ks.map fun k=>bf k) (E ts x)=some (.nx (E (ts++ks.map φ) y))
 |[],ts,x,_,_=>⟨x,by simp [cN]⟩
 |k::ks,ts,x,hk,hl=>by
  rw [zaj] at hl
  obtain⟨y,h2⟩:=oH M hb ks (ts++[φ k]) .ca (fun z hz=>hk z (.aT hz)) .a5
  refine⟨y,?_⟩
  rw [zag,cW (M ts x k) (hb ts k (hk k zad) .e),h2]
  simp
abbrev Pa:List T->Option T:=cj 12 1 (iJ zu uO L1 OC)
abbrev lj (sc:.eg):T:=.scr (sc.map T.int)
abbrev eU (nm:.cy)(n:Nat):List .bL:=(List.range n).map nm
noncomputable abbrev wI (sc:.eg)(c:Int)(a b o m:Nat)(f g:.R)(ts:List T)(d l H:.aB):aE:=[s (lj sc),.e c,.j a,.j b,.j o,.j m,.aO f,.aO g,.o ts,d,l,H]
theorem KI {nm:.cy}{n i:Nat}(h:i<n):(eU nm n).getD i []=nm i:=by
 unfold eU
 rw [zaD,za5,zb3 h]
 rfl
theorem kJ {nm:.cy}{n:Nat}:(eU nm n).length=n:=by
 unfold eU
 rw [zaf,zbc]
theorem yB {nm:.cy}{n i:Nat}(h:i<n):br (cn (eU nm n)) (bf i)=some (tx (nm i)):=by rw [zk (by rw [kJ];exact h),KI h]
noncomputable def RG:FS:=(aH (bF 10 (ak uO (.v zu)))
  (aH (eQ 8 (ak OC (ag (au br (ae 6) (.Q (.y 3) (ae 9))) (.p 10 7))))
  (bF 7 (.Q (ae 7) (eT (.ac (au br (ae 6) (au aT (.y 3) (ae 9)))))))))
theorem R9:LO [5,199,12,48,48,48,48]:=by
 have r:=nU
 intro x hx
 simp only [List.mem_cons,List.not_mem_nil,or_false] at hx
 omega
theorem Ie {nm:.cy}{n:Nat}:eU nm n++[nm n]=eU nm (n+1):=by
 unfold eU
 rw [List.range_succ,zay]
 rfl
noncomputable def RV (nm:.cy)(i:Nat)(p:Pt):Prop:=p.Ok/\p.nm=some (nm i)/\p.inner=true/\∀w∈p.ws,w∈eU nm i
theorem K2 (sc:.eg)(c:Int){a b o m N k:Nat}{nm:.cy}(hn:∀i,uN (nm i))(J:N≤100)(hk:a+1+b+k<N)(ts:List T)(l:.aB)(hl:ts.length<900):∃p u,RV nm .gY p /\
  RG (.aJ .ca)=some (.nx (wI sc c a b o m .cQ (eU nm (a+1+b+k+1)) (ts++[p.law]) .ca u none)):=by
 have r:=nU
 obtain⟨dg,e1,e2⟩:=kg (sc.getD (4+k) 0+7919*(k:Int)) R9 .f
 obtain⟨p,q1,q2,q3,q4,q5⟩:=GY (n:=nm .gY) (ws:=eU nm .gY) (hn _) (fun w L=>by obtain⟨i,_,rfl⟩:=zah.mp L;exact hn i) (by rw [kJ];omega) (by rw [kJ];omega) e2
 refine⟨p,s (nt dg),⟨q2,q3,q4,q5⟩,?_⟩
 have f:∀(g:.R) (us:List T) (x:.aB),au br (ae 6) (.Q (.y 3) (ae 9)) (wI sc c a b o m .cQ g us .ca x none)=some (tx (nm .gY),wI sc c a b o m .cQ g us .ca x none):=fun g us x =>
  aQ rfl (aQ (aQ .fx rfl ib) rfl ib) (yB hk)
 have h1:ak uO (.v zu) (.aJ .ca)
   = some (nt dg,wI sc c a b o m .cQ (eU nm .gY) ts .ca l none):=
  aB _ (ck (aQ (aB _ (ck rfl (.q (ib (a:=4)))) (jq sc (4+k))) (.q (kl .e .e)) eJ) (jt (ts:=[.int 5,.int 199,.int 12,.int 48,.int 48,.int 48,.int 48]) rfl .f)) e1
 unfold RG
 rw [aS (cF (τ2:=wI sc c a b o m .cQ (eU nm .gY) ts .ca (s (nt dg)) none) h1 rfl),aS (ma (ts:=ts) (t:=p.law) rfl (aB _ (qP (f _ _ _) rfl rfl) q1) (bN .e))]
 have M:aT (cn (eU nm .gY)) (.lst [tx (nm .gY)])=some (cn (eU nm (a+1+b+k+1))):=by
  rw [ml (by rw [List.length_map,kJ];exact aR .j)]
  rw [show [tx (nm .gY)]=[nm .gY].map tx from rfl,<- zay,Ie]
 exact cF (τ1:=wI sc c a b o m .cQ (eU nm .gY) (ts++[p.law]) .ca (s (nt dg)) none) (aQ rfl (jt (bJ (f _ _ _)) .c7) M) rfl
theorem DT (sc:.eg)(c:Int){a b o m N:Nat}{nm:.cy}(hn:∀i,uN (nm i))(J:N≤100):∀(j k:Nat) (ts:List T) (d l:.aB),a+1+b+k+j=N->ts.length+j≤900->∃(is:.ap) (f u:.aB),is.length=j/\(∀i (h:i<is.length),RV nm (a+1+b+k+i) is[i]) /\
  cN (ai 9) RG (TM.upTo (k:Nat) j) (.aJ d)=some (.nx (wI sc c a b o m .cQ .cQ (ts++is.map Pt.law) f u none))
 |0,k,ts,d,l,he,_=>⟨[],d,l,rfl,fun i h=>(Nat.not_lt_zero _ h).elim,by
  rw [show a+1+b+k=N by omega]
  simp [TM.upTo,cN]⟩
 |j+1,k,ts,d,l,he,hl=>by
  obtain⟨p,u,hp,h1⟩:=K2 (o:=o) (m:=m) sc c hn J (show a+1+b+k<N by omega) ts l .e
  obtain⟨is,q,g,g1,g2,g3⟩:=DT sc c (a:=a) (b:=b) (o:=o) (m:=m) hn J j (k+1) (ts++[p.law]) .ca u .e .a5
  refine⟨p::is,q,g,by rw [zaj,g1],fun i h=>?_,?_⟩
  ·cases i with
   |zero=>exact hp
   |succ i =>
    have:=g2 i .an
    rw [show a+1+b+k+(i+1)=a+1+b+(k+1)+i by omega]
    exact this
  ·rw [show TM.upTo (k:Nat) (j+1)=bf k::TM.upTo (((k+1:Nat)):Int) j from rfl,cW rfl h1,show a+1+b+k+1=a+1+b+(k+1) by omega,g3]
   simp
noncomputable def partsOf (nm:.cy)(a b o:Nat)(is:.ap)(e:Nat->Nat):List Pt:=
 (List.range (a+1)).map (fun i=>Pt.inp (nm i))++is++(List.range b).map (fun k=>Pt.cell (nm (a+1+k)) (nm (e k)))++(List.range (o+1)).map fun k=>Pt.out (nm (e (b+k)))
theorem EH {n x:Nat}:∀{ds:.D} {k:Nat},Below ds (List.replicate n x)->k<n->ds.getD k 0<x:=fun {ds k} h hk=>by
 have:=Below.get h (by rw [zbj];exact hk)
 rwa [zaD,zaD,List.getElem?_replicate,if_pos hk,Option.getD_some,<- zaD] at this
theorem S5 {f:FE}{τ:aE}{n:Nat}(h:f τ=some (bf n,τ))(h1:n≤1000):bQ (.ac f) τ=some (TM.upTo ((0:Nat):Int) n,τ):=by
 have:=A0 (n:=(n:Int)) h .e .e
 rwa [zaW] at this
theorem Iz (sc:.eg)(c:Int){a b o m N:Nat}{nm:.cy}{en:.D}(J:a+1+b≤N)(g:N≤100)(hb:b≤en.length)(he:∀k,k<en.length->en.getD k 0<N)(ts:List T)(d l:.aB)(hl:ts.length≤200):
  ∃f,cN (ai 9) .bP ((List.range b).map fun k=>bf k) (wI sc c a b o m .cQ .cQ ts d l (s (nt en)))
   = some (.nx (wI sc c a b o m .cQ .cQ (ts++(List.range b).map fun k=>(Pt.cell (nm (a+1+k)) (nm (en.getD k 0))).law) f l (s (nt en)))):=
 oH (E:=fun ts x=>wI sc c a b o m .cQ .cQ ts x l (s (nt en))) (P:=fun k=>k<b) (fun ts x k=>rfl) (fun ts k hk hl=>.a8 (ko (qP rfl (aQ rfl (aQ .fx rfl ib) (yB .e)) (aQ rfl (.q (DQ .e)) (yB (he k .e))))))
  (.a4 b) ts d (fun k hk=>zaL.mp hk) (by rw [zbc];omega)
theorem K0 (sc:.eg)(c:Int){a b o m N:Nat}{nm:.cy}{en:.D}(g:N≤100)(hb:b+o+1≤en.length)(ho:o≤10)(he:∀k,k<en.length->en.getD k 0<N)(ts:List T)(d l:.aB)(hl:ts.length≤200):
  ∃f,cN (ai 9) .cz ((List.range (o+1)).map fun k=>bf k) (wI sc c a b o m .cQ .cQ ts d l (s (nt en)))
   = some (.nx (wI sc c a b o m .cQ .cQ (ts++(List.range (o+1)).map fun k=>(Pt.out (nm (en.getD (b+k) 0))).law) f l (s (nt en)))):=
 oH (E:=fun ts x=>wI sc c a b o m .cQ .cQ ts x l (s (nt en))) (P:=fun k=>k<o+1) (fun ts x k=>rfl) (fun ts k hk hl=>.a8 (ko (ck rfl (aQ rfl (aQ rfl (.q ib) (DQ .e)) (yB (he _ .e))))))
  (.a4 (o+1)) ts d (fun k hk=>zaL.mp hk) (by rw [zbc];omega)
theorem De {f:FE}{g:FE}{τ:aE}{nm:.cy}{n k:Nat}(h:f τ=some (cn (eU nm n),τ))(M:g τ=some (bf k,τ))(hk:k≤n):qE f cP (cT g) τ=some (cn (eU nm k),τ):=by
 unfold qE cT cP
 rw [h,zaa]
 dsimp only
 rw [zaa]
 dsimp only
 rw [M,zaa]
 dsimp only
 rw [zaa]
 dsimp only
 rw [GP (by rw [zaf,kJ];exact hk),zaa]
 congr 3
 unfold eU
 rw [<- zbX,<- zbX,List.take_range,zbp hk]
theorem m9 {i no:Nat}{cap:.D}{fi:FA}{fg:FG}{ft:FT}{fe:FE}{τ:aE}{ts us:List T}(h1:fi τ=some (ts,τ))(h2:frzAll cap τ=τ)(W:bE (.bb τ)=true)(N:dM fg ft fe ts (.bb τ) []=some us):cU i no cap fi fg ft fe τ=some (.nx (τ.set i (.s us))):=by
 unfold cU
 rw [h1,zaa]
 dsimp only
 rw [h2,if_pos W,N]
 rfl
structure Pn (nm:.cy)(a b o m:Nat)(is:.ap)(e:Nat->Nat):Prop where
 nam:∀k,uN (nm k)
 inj:∀i j,i<a+1+b+m->j<a+1+b+m->nm i=nm j->i=j
 ha:a<2
 hb:b<5
 ho:o<2
 hm:m<9
 len:is.length=m
 inn:∀i (h:i<is.length),RV nm (a+1+b+i) is[i]
 he:∀k,k<b+o+1->e k<a+1+b+m
theorem G1 (sc:.eg):∃nm a b o m is e,Pn nm a b o m is e/\Pa [lj sc]=some (.al ((partsOf nm a b o is e).map Pt.law)):=by
 have r:=nU
 have b4:LO [2,5,2,9]:=by
  intro x hx
  simp only [List.mem_cons,List.not_mem_nil,or_false] at hx
  omega
 obtain⟨dg,e1,e2⟩:=kg (sc.getD 0 0) b4 .f
 have hl:=e2.len
 match dg,e2,hl with
 |[a,b,o,m],e2,_ =>
  obtain⟨ha,hb,ho,hm,_⟩:=e2
  obtain⟨nm,f1,f2,T⟩:=G0 (sc.getD 1 0) (n:=a+1+b+m) .e
  have p:L1 [.int (sc.getD 1 0),.int ((a+1+b+m:Nat):Int)]=some (cn .ci):=by
   rw [f1]
   unfold cn eU
   rw [zaC]
   rfl
  generalize l:sc.getD 0 0=c at *
  obtain⟨is,f,u,g1,g2,g3⟩:=DT sc c (a:=a) (b:=b) (o:=o) (m:=m) (N:=a+1+b+m) f2 .e m 0 ((List.range (a+1)).map fun i=>(Pt.inp (nm i)).law) none none .e .j
  obtain⟨en,h1,h2⟩:=kg (sc.getD 2 0) (bs:=List.replicate (b+o+1) (a+1+b+m)) (C9 .e .e) .j
  have hle:=h2.len
  rw [zbj] at hle
  have d:∀k,k<en.length->en.getD k 0<a+1+b+m:=fun k hk=>EH h2 .e
  obtain⟨q,k1⟩:=Iz sc c (a:=a) (b:=b) (o:=o) (m:=m) (N:=a+1+b+m) (nm:=nm) (en:=en) .e .e .e d .aH f u .j
  obtain⟨t,k2⟩:=K0 sc c (a:=a) (b:=b) (o:=o) (m:=m) (N:=a+1+b+m) (nm:=nm) (en:=en) .e .e .e d (.aH++(List.range b).map fun k=>(Pt.cell (nm (a+1+k)) (nm (en.getD k 0))).law) q u .j
  refine⟨nm,a,b,o,m,is,fun k=>en.getD k 0,⟨f2,T,ha,hb,ho,hm,g1,fun i h=>g2 i h,fun k hk=>d k .e⟩,cu rfl ?_⟩
  show iJ zu uO L1 OC .c1=_
  have j:iJ zu uO L1 OC=(aH (bF 1 (ak zu (.e (ae 0) (aF 0))))
   (aH (kh (ak uO .ck) .gd)
   (aH (bF 6 (ak L1 (.a6 zu)))
   (aH (bF 7 (qE (ae 6) cP (cT (.y 3))))
   (aH (cU 8 1 [] (aX .eO) (ai 0) aI .et)
   (aH (fW (bQ (bI 5)) (ai 9) RG)
   (aH (bF 11 (ak uO (.V zu)))
   (aH (fW (bQ (bI 3)) (ai 9) .bP)
   (aH (fW (bQ (.ac (.a aT 4 1))) (ai 9) .cz)
   (.a1 8)))))))))):=rfl
  rw [j]
  clear j
  have s1:ak zu (.e (ae 0) (aF 0)) .c1=some (.int c,.c1):=by
   refine aB _ .bv ?_
   rw [<- l]
   exact jq sc 0
  rw [aS (cF (τ2:=.bu) s1 rfl)]
  have s2:ak uO .ck .bu=some (nt [a,b,o,m],.bu):=aB _ (ck rfl (jt (ts:=[.int 2,.int 5,.int 2,.int 9]) rfl .f)) e1
  rw [aS (show kh (ak uO .ck) .gd .bu=some (.nx .c2) by
   unfold kh
   rw [s2]
   rfl)]
  clear s1 s2
  have s3:ak L1 (.a6 zu) .c2=some (cn .ci,.c2):=
   aB _ (ck (aB _ .bv (jq sc 1)) (aQ (aQ .fx rfl ib) rfl ib)) p
  rw [aS (cF (τ2:=.b6) s3 rfl)]
  have s4:qE (ae 6) cP (cT (.y 3)) .b6=some (cn (eU nm (a+1+b)),.b6):=
   De rfl (aQ .fx rfl ib) .e
  rw [aS (cF (τ2:=.ag) s4 rfl)]
  clear s3 s4
  have s5:aX .eO .ag=some ((eU nm (a+1)).map tx,.ag):=by
   unfold aX
   rw [De (n:=a+1+b+m) (k:=a+1) rfl .fx .e]
   rfl
  have F:dM (ai 0) aI .et ((eU nm (a+1)).map tx) [none] []=some ([]++(eU nm (a+1)).map fun n=>(Pt.inp n).law):=bP rfl _ _ _ (fun n hn=>ko .bv) (by rw [kJ];exact aR .j)
  rw [aS (show cU 8 1 [] (aX .eO) (ai 0) aI .et .ag=some (.nx (wI sc c a b o m .ci (eU nm (a+1+b+0)) ((List.range (a+1)).map fun i=>(Pt.inp (nm i)).law) none none none)) by
   rw [List.nil_append,show ((eU nm (a+1)).map fun n=>(Pt.inp n).law)=(List.range (a+1)).map fun i=>(Pt.inp (nm i)).law by unfold eU;rw [List.map_map];rfl] at F
   exact m9 s5 rfl rfl F),aS (iz (S5 (n:=m) rfl .e) g3)]
  clear s5 F g3
  have L:ak uO (.V zu) (wI sc c a b o m .ci .ci .aH f u none)=some (nt en,wI sc c a b o m .ci .ci .aH f u none):=by
   refine aB _ (ck (aB _ .bv (jq sc 2)) (aQ (jt (bJ (.am lG)) .c7) (aQ (.q ib) rfl (ib (b:=1))) ?_)) h1
   rw [<- Ih,kJ]
   have g:=Dw (ts:=[.int ((a+1+b+m:Nat):Int)]) (k:=((b+o+1:Nat):Int)) .e .e (by rw [zaW,zau];exact aR .e)
   rw [zaW] at g
   exact g
  rw [aS (cF (τ2:=wI sc c a b o m .ci .ci .aH f u (s (nt en))) L rfl),aS (iz (gy (n:=b) rfl .e) k1),aS (iz (gy (n:=o+1) .fx .e) k2)]
  unfold partsOf
  simp only [List.map_append,List.map_map]
  rfl
def Pt.isIn:Pt->Bool | .inp _=>true | _=>false
def Pt.isCell:Pt->Bool | .cell _ _=>true | _=>false
def Pt.isOut:Pt->Bool | .out _=>true | _=>false
structure Gp (ps:.ap)(r:.bj):Prop where
 ok:∀p∈ps,p.Ok
 nd:(ps.filterMap Pt.nm).Nodup
 ws:∀p∈ps,∀w∈p.ws,w∈ps.filterMap Pt.nm
 rk:∀p∈ps,p.inner=true->∀n,p.nm=some n->∀w∈p.ws,r w<r n
 ins:1≤(ps.filter Pt.isIn).length/\(ps.filter Pt.isIn).length≤2
 cells:(ps.filter Pt.isCell).length≤4
 outs:1≤(ps.filter Pt.isOut).length/\(ps.filter Pt.isOut).length≤2
 len:ps.length≤24
 inn:(ps.filter Pt.inner).length≤8
theorem Gp.perm {ps qs:.ap}{r:.bj}(h:.d1)(e:ps.Perm qs):Gp qs r:=by
 have m:∀p,p∈qs->p∈ps:=fun p hp=>e.mem_iff.mpr hp
 have f:=e.filterMap Pt.nm
 refine⟨fun p hp=>h.ok p (m p hp),f.nodup_iff.mp h.nd,fun p hp w L=>f.mem_iff.mp (h.ws p (m p hp) w L),fun p hp=>h.rk p (m p hp),?_,?_,?_,?_,?_⟩
 ·rw [<- (e.filter Pt.isIn).length_eq];exact h.ins
 ·rw [<- (e.filter Pt.isCell).length_eq];exact h.cells
 ·rw [<- (e.filter Pt.isOut).length_eq];exact h.outs
 ·rw [<- e.length_eq];exact h.len
 ·rw [<- (e.filter Pt.inner).length_eq];exact h.inn
theorem zS:∀(is:.ap) (f:.cy),(∀i (h:i<is.length),is[i].nm=some (f i))->is.filterMap Pt.nm=(List.range is.length).map f
 |[],_,_=>rfl
 |p::is,f,h=>by
  have h0:p.nm=some (f 0):=h 0 .h
  have A:=zS is (fun i=>f (i+1)) fun i hi=>h (i+1) .dq
  rw [zaY (b:=f 0) h0,A,zaj,List.range_succ_eq_map,zag,zaC]
  rfl
theorem BZ {α:Type}{f:α->Pt}{g:α->List Nat}(h:∀x,(f x).nm=some (g x)):∀l:List α,(l.map f).filterMap Pt.nm=l.map g
 |[]=>rfl
 |x::l=>by rw [zag,zaY (b:=g x) (h x),BZ h l,zag]
theorem Dt {α:Type}{f:α->Pt}(h:∀x,(f x).nm=none):∀l:List α,(l.map f).filterMap Pt.nm=[]
 |[]=>rfl
 |x::l=>by rw [zag,zbH (h x),Dt h l]
noncomputable def idxs (a b m:Nat):List Nat:=List.range (a+1)++(List.range m).map (fun i=>a+1+b+i)++(List.range b).map fun k=>a+1+k
variable {nm:.cy}{a b o m:Nat}{is:.ap}{e:Nat->Nat}
theorem Pn.names (h:Pn nm a b o m is e):(partsOf nm a b o is e).filterMap Pt.nm=(idxs a b m).map nm:=by
 unfold partsOf idxs
 rw [za8,za8,za8,BZ (g:=nm) .c4,BZ (g:=fun k=>nm (a+1+k)) .c4,Dt .c4,zS is (fun i=>nm (a+1+b+i)) (fun i hi=>(h.inn i hi).2.1),h.len,zaA,zay,zay,zaC,zaC]
 rfl
theorem zZ {a b m i:Nat}:i∈idxs a b m ↔ i<a+1+b+m:=by
 unfold idxs
 simp only [List.mem_append,List.mem_map,List.mem_range]
 constructor
 ·rintro ((h | ⟨j,h,rfl⟩) | ⟨j,h,rfl⟩)<;>omega
 ·intro h
  by_cases h1:i<a+1
  ·exact .inl (.inl h1)
  ·by_cases h2:i<a+1+b
   ·exact .bg ⟨i-(a+1),.e,.e⟩
   ·exact .inl (.bg ⟨i-(a+1+b),.e,.e⟩)
theorem AG (n k:Nat):((List.range n).map fun i=>k+i).Nodup:=by
 refine List.pairwise_map.mpr ((List.nodup_range).imp fun d e=>d .e)
theorem Kh:(idxs a b m).Nodup:=by
 unfold idxs
 rw [zaI,zaI]
 refine⟨⟨List.nodup_range,AG m (a+1+b),fun x hx y R e=>?_⟩,AG b (a+1),fun x hx y R e=>?_⟩
 ·obtain⟨i,_,rfl⟩:=zah.mp R
  have:=zaL.mp hx
  omega
 ·obtain⟨i,hi,rfl⟩:=zah.mp R
  have:=zaL.mp hi
  rcases zaz.mp hx with hx | hx
  ·have:=zaL.mp hx
   omega
  ·obtain⟨j,_,rfl⟩:=zah.mp hx
   omega
theorem HX {N:Nat}(inj:∀i j,i<N->j<N->nm i=nm j->i=j){l:.D}(hl:l.Nodup)(J:∀x∈l,x<N):(l.map nm).Nodup:=
 List.pairwise_map.mpr (hl.imp_of_mem fun hx R d e=>d (inj _ _ (J _ hx) (J _ R) e))
theorem oj {p:Pt}(h:p∈partsOf nm a b o is e):(∃i,i<a+1/\p=.inp (nm i))\/(∃i,∃hi:i<is.length,p=is[i])\/(∃k,k<b/\p=.cell (nm (a+1+k)) (nm (e k)))\/∃k,k<o+1/\p=.out (nm (e (b+k))):=by
 unfold partsOf at h
 rcases zaz.mp h with h | h
 ·rcases zaz.mp h with h | h
  ·rcases zaz.mp h with h | h
   ·obtain⟨i,hi,rfl⟩:=zah.mp h
    exact .inl ⟨i,zaL.mp hi,rfl⟩
   ·obtain⟨i,hi,rfl⟩:=zb0 h
    exact .bg (.inl ⟨i,hi,rfl⟩)
  ·obtain⟨i,hi,rfl⟩:=zah.mp h
   exact .bg (.inr (.inl ⟨i,zaL.mp hi,rfl⟩))
 ·obtain⟨i,hi,rfl⟩:=zah.mp h
  exact .bg (.inr (.inr ⟨i,zaL.mp hi,rfl⟩))
theorem rK {α:Type}{f:α->Pt}{t:Pt->Bool}(h:∀x,t (f x)=true):∀l:List α,((l.map f).filter t).length=l.length
 |[]=>rfl
 |x::l=>by rw [zag,zbb (h x),zaj,zaj,rK h l]
theorem BX {t:Pt->Bool}:∀l:List Pt,(∀p∈l,t p=false)->(l.filter t).length=0
 |[],_=>rfl
 |x::l,h=>by rw [.a9 (by rw [h x zad];exact zaR),BX l fun p hp=>h p (.aT hp)]
open Classical in
def Lm (nm:.cy)(N:Nat)(w:.D):Nat:=if h:∃i,i<N/\nm i=w then h.choose else 0
theorem DY {N:Nat}(inj:∀i j,i<N->j<N->nm i=nm j->i=j){i:Nat}(hi:i<N):Lm nm N (nm i)=i:=by
 have h:∃j,j<N/\nm j=nm i:=⟨i,hi,rfl⟩
 unfold Lm
 rw [dif_pos h]
 exact inj _ _ h.choose_spec.1 hi h.choose_spec.2
theorem p0 {p:Pt}(h:p.inner=true):p.isIn=false/\p.isCell=false/\p.isOut=false:=by
 cases p<;>first | exact⟨rfl,rfl,rfl⟩ | cases h
theorem Pn.gp (h:Pn nm a b o m is e):Gp (partsOf nm a b o is e) (Lm nm (a+1+b+m)):=by
 have mem:∀i,i<a+1+b+m->nm i∈(partsOf nm a b o is e).filterMap Pt.nm:=fun i hi=>by
  rw [h.names]
  exact zah.mpr ⟨i,zZ.mpr hi,rfl⟩
 have i1:∀p∈is,p.isIn=false/\p.isCell=false/\p.isOut=false:=fun p hp=>by
  obtain⟨i,hi,rfl⟩:=zb0 hp
  exact p0 (h.inn i hi).2.2.1
 have cnt:∀t:Pt->Bool,(∀p∈is,t p=false)->((partsOf nm a b o is e).filter t).length=(((List.range (a+1)).map fun i=>Pt.inp (nm i)).filter t).length+(((List.range b).map fun k=>Pt.cell (nm (a+1+k)) (nm (e k))).filter t).length+(((List.range (o+1)).map fun k=>Pt.out (nm (e (b+k)))).filter t).length:=fun t Y=>by
  unfold partsOf
  rw [zba,zba,zba,zak,zak,zak,BX is Y]
  rfl
 have no:∀{α:Type} {f:α->Pt} {t:Pt->Bool} (l:List α),(∀x,t (f x)=false)->((l.map f).filter t).length=0:=fun l Y=>BX _ fun p hp=>by
  obtain⟨x,_,rfl⟩:=zah.mp hp
  exact Y x
 have ha:=h.ha
 have hb:=h.hb
 have ho:=h.ho
 have hm:=h.hm
 refine⟨fun p hp=>?_,?_,fun p hp w L=>?_,fun p hp hi n hn w L=>?_,?_,?_,?_,?_,?_⟩
 ·rcases oj hp with ⟨i,hi,rfl⟩ | ⟨i,hi,rfl⟩ | ⟨k,hk,rfl⟩ | ⟨k,hk,rfl⟩
  ·exact h.nam i
  ·exact (h.inn i hi).1
  ·exact⟨h.nam _,h.nam _⟩
  ·exact h.nam _
 ·rw [h.names]
  exact HX h.inj Kh fun x hx=>zZ.mp hx
 ·rcases oj hp with ⟨i,hi,rfl⟩ | ⟨i,hi,rfl⟩ | ⟨k,hk,rfl⟩ | ⟨k,hk,rfl⟩
  ·cases L
  ·obtain⟨j,S,rfl⟩:=zah.mp ((h.inn i hi).2.2.2 w L)
   have:=zaL.mp S
   have:=h.len
   exact mem j .e
  ·rw [zac.mp L]
   exact mem _ (h.he k .e)
  ·rw [zac.mp L]
   exact mem _ (h.he (b+k) .e)
 ·rcases oj hp with ⟨i,hi,rfl⟩ | ⟨i,c,rfl⟩ | ⟨k,hk,rfl⟩ | ⟨k,hk,rfl⟩
  ·cases hi
  ·have hl:=h.len
   obtain⟨j,S,rfl⟩:=zah.mp ((h.inn i c).2.2.2 w L)
   have S:=zaL.mp S
   have en:=(h.inn i c).2.1
   rw [hn] at en
   cases en
   rw [DY h.inj .e,DY h.inj .e]
   exact S
  ·cases hi
  ·cases hi
 ·rw [cnt _ fun p hp=>(i1 p hp).1,rK .c4,no _ .c4,no _ .c4,zbc]
  omega
 ·rw [cnt _ fun p hp=>(i1 p hp).2.1,no _ .c4,rK .c4,no _ .c4,zbc]
  omega
 ·rw [cnt _ fun p hp=>(i1 p hp).2.2,no _ .c4,no _ .c4,rK .c4,zbc]
  omega
 ·have:=h.len
  unfold partsOf
  simp only [List.length_append,List.length_map,List.length_range]
  omega
 ·unfold partsOf
  rw [zba,zba,zba,zak,zak,zak,no _ .c4,no _ .c4,no _ .c4]
  have:=zbO Pt.inner is
  have:=h.len
  omega
abbrev O4:List T->Option T:=cj 5 2 (jh uO)
abbrev DK (P:T)(c:Int)(qs:.ap)(j B:.aB):aE:=[s P,.e c,.o (qs.map Pt.law),j,B]
theorem Ks (P:T)(c:Int){qs:.ap}{p:Pt}{d:Nat}(hd:d≤qs.length)(hl:qs.length≤100):EZ 2 (ae 4) (ae 3) .gn=some (.nx (DK P c (qs.take d++p::qs.drop d) (s p.law) .d3)):=by
 unfold EZ
 show (((ae 4 .gn).bind fun p=>_):Option R)=_
 rw [show ae 4 .gn=some (bf d,DK P c qs (s p.law) .d3) from rfl,zaa]
 dsimp only
 rw [show ae 3 .gn=some (p.law,DK P c qs (s p.law) .d3) from rfl,zaa]
 show (if 0≤(d:Int)/\(d:Int).toNat≤(qs.map Pt.law).length/\(qs.map Pt.law).length<1000 then _ else none)=_
 rw [zaW,zaf,.ap ⟨.e,hd,.e⟩]
 have e:(qs.map Pt.law).take d++p.law::(qs.map Pt.law).drop d=(qs.take d++p::qs.drop d).map Pt.law:=by rw [zay,zag,zbX,List.map_drop]
 show some (R.nx [s P,.e c,.o ((qs.map Pt.law).take d++p.law::(qs.map Pt.law).drop d),s p.law,.j d])=_
 rw [e]
theorem DL (P:T)(c:Int):∀(ps:.ap) (ds:.D) (k:Nat) (qs:.ap) (j B:.aB),Below ds ((List.range' k ps.length).map (· + 1))->qs.length=k->k+ps.length≤100->∃rs I V,(ps++qs).Perm rs/\cN (bS (.a 3 4)) (EZ 2 (ae 4) (ae 3)) ((List.zip ps ds).map fun p=>.tup [p.1.law,.int (p.2:Nat)]) (DK P c qs j B)=some (.nx (DK P c rs I V))
 |[],ds,k,qs,j,B,_,_,_=>⟨qs,j,B,List.Perm.refl _,by simp [cN]⟩
 |p::ps,[],k,qs,j,B,hb,_,_=>by
  rw [zaj,List.range'_succ,zag] at hb
  exact hb.elim
 |p::ps,d::ds,k,qs,j,B,hb,hq,hl=>by
  rw [zaj,List.range'_succ,zag] at hb
  rw [zaj] at hl
  obtain⟨rs,I,V,e1,e2⟩:=DL P c ps ds (k+1) (qs.take d++p::qs.drop d) (s p.law) .d3 hb.2 (by rw [zak,zaj,zaV,za2];have:=hb.1;omega) .e
  refine⟨rs,I,V,List.Perm.trans ?_ e1,?_⟩
  ·have m:(qs.take d++p::qs.drop d).Perm (p::qs):=by
    have:=List.perm_middle (a:=p) (l₁:=qs.take d) (l₂:=qs.drop d)
    rwa [List.take_append_drop] at this
   exact ((List.perm_middle (a:=p) (l₁:=ps) (l₂:=qs)).symm.trans ((m.symm).append_left ps))
  ·rw [zbJ,zag,cW rfl (Ks P c (by have:=hb.1;omega) .e),e2]
theorem J1 (c:Int){ps:.ap}(hl:ps.length≤100):∃rs:List Pt,ps.Perm rs/\O4 [.lst .eP,.int c]=some (.al (rs.map Pt.law)):=by
 have r:=nU
 have f:LO ((List.range' 0 ps.length).map (· + 1)):=fun x hx=>by
  obtain⟨i,hi,rfl⟩:=zah.mp hx
  have:=List.mem_range'_1.mp hi
  omega
 obtain⟨ds,e1,e2⟩:=kg c f .j
 obtain⟨rs,I,V,g1,g2⟩:=DL .J c ps ds 0 [] none none e2 rfl .e
 refine⟨rs,by simpa using g1,cu rfl ?_⟩
 show jh uO [s .J,.e c,none,none,none]=_
 unfold jh
 have h:(T.lst ((List.range ps.length).map fun i=>T.int ((i+1:Nat):Int)))=nt ((List.range' 0 ps.length).map (· + 1)):=by
  unfold nt
  rw [zaC,List.range_eq_range']
  rfl
 have h1:bq 1 [] (bQ (.ac (.l cJ 0))) (ai 0) aI (.a aT 0 1) (DK .J c [] none none)=some (nt ((List.range' 0 ps.length).map (· + 1)),DK .J c [] none none):=by
  rw [<- h]
  refine bX (ts:=(List.range ps.length).map fun (i:Nat)=>T.int i) (gy (.am (by rw [rP,zaf])) .e) rfl rfl ?_
  exact bP (φ:=fun i:Nat=>T.int i) (g:=fun i:Nat=>T.int ((i+1:Nat):Int)) rfl (List.range ps.length) none [] (fun i hi=>aQ rfl rfl (ib (b:=1))) (by rw [List.length_range];exact aR .j)
 have h2:hV (.e (ae 0) (ak uO (ag (ae 1) (.ac (.X (bQ (ag (.l cJ 0) ar)) (.a aT 0 1)))))) (DK .J c [] none none)=some ((List.zip ps ds).map fun p=>.tup [p.1.law,.int (p.2:Nat)],DK .J c [] none none):=by
  unfold hV
  rw [ck (t:=.lst .eP) (u:=nt ds) rfl (aB _ (ck rfl h1) e1),zaa]
  show some (jf .eP (ds.map fun d=>bf d),_)=_
  rw [kq]
 rw [aS (show bK 2 ar [s .J,.e c,none,none,none]=some (.nx (DK .J c [] none none)) from rfl),aS (iz h2 g2)]
 rfl
abbrev O0:Addr:=51
abbrev ic:Addr:=349
abbrev dR:Addr:=384
abbrev dz:Addr:=424
abbrev cM:Addr:=464
abbrev cI:Addr:=500
abbrev eW:Addr:=540
abbrev dN:Addr:=615
noncomputable def Pt.obj:Pt->T
 | .inp n=>.obj dR ["name"] [tx n]
 | .cell n w=>.obj dz ["name",.cP] [tx n,tx w]
 | .gain n q w=>.obj cM ["name","by",.cP] [tx n,cm q,tx w]
 | .sum n ts=>.obj cI ["name","terms"] [tx n,.tup (ts.map jV)]
 | .out w=>.obj eW ["source"] [tx w]
noncomputable def Pt.kind:Pt->List Nat
 | .inp _=>[105,110]
 | .cell _ _=>[99,101,108,108]
 | .gain _ _ _=>[103,97,105,110]
 | .sum _ _=>[115,117,109]
 | .out _=>[111,117,116]
def nh (t:Bool×List Nat):List Nat:=(if t.1 then [] else [45])++t.2
noncomputable def Pt.args:Pt->List .bL
 | .inp n=>[n]
 | .cell n w=>[n,w]
 | .gain n q w=>[n,gX q.num q.den,w]
 | .sum n ts=>n::ts.map nh
 | .out w=>[w]
def Pt.row (p:Pt):List Nat:=jl 32 (p.kind::p.args)
theorem CM:Str.ofString "in" = S [105,110]:=.c
theorem qr:Str.ofString "cell" = S [99,101,108,108]:=.c
theorem qt:Str.ofString "gain" = S [103,97,105,110]:=.c
theorem Bj:Str.ofString "sum" = S [115,117,109]:=.c
theorem Jr:Str.ofString "out" = S [111,117,116]:=.c
theorem LH:Str.ofString "gain " = S [103,97,105,110,32]:=.c
theorem Oi:Str.ofString "sum " = S [115,117,109,32]:=.c
theorem Jq:Str.ofString " " = S [32]:=.c
theorem QY:Str.ofString " -" = S [32,45]:=.c
theorem QZ:Str.ofString "\n" = S [10]:=.c
theorem P2 (p:Pt):br p.law (.af 0)=some (tx p.kind):=by
 cases p
 ·exact congrArg .fb CM
 ·exact congrArg .fb qr
 ·exact congrArg .fb qt
 ·exact congrArg .fb Bj
 ·exact congrArg .fb Jr
theorem Ax (p:Pt):pM p.kind:=by
 intro c U
 cases p<;>simp only [Pt.kind,List.mem_cons,List.not_mem_nil,or_false] at U<;>omega
theorem rO {τ:aE}{i:Nat}{p:Pt}{k:String}{l:.D}(h:τ[i]? = some (s p.law))(hk:.hc)(hl:pM l):du (.aC (.S i)) τ=some (decide (p.kind=l),τ):=by
 rw [hk]
 exact gg (aQ (aQ (uE h) rfl (P2 p)) rfl (Hj (Ax p) hl))
theorem sq (l:.D)(h:l.all (fun c=>decide (c<128))=true):pM l:=fun c U=>of_decide_eq_true (zbT.mp h c U)
theorem GA:pM [105,110]:=sq _ rfl
theorem xi:pM [99,101,108,108]:=sq _ rfl
theorem sj:pM [103,97,105,110]:=sq _ rfl
theorem C4:pM [115,117,109]:=sq _ rfl
theorem OX:pM [111,117,116]:=sq _ rfl
theorem Ee {q:Rat}(h:OU q):(gX q.num q.den).length≤6:=by
 have h1:=fV 1 q.num.natAbs (by have:=h.1;omega)
 have h2:=fV 1 q.den (by have:=h.2;omega)
 unfold gX
 rw [zak,zak]
 split<;>split<;>simp<;>omega
theorem Pt.len_args:∀{p:Pt},p.Ok->p.args.length≤5/\∀a∈p.args,a.length≤9
 | .inp n,h=>⟨zai rfl,fun a ha=>by rw [zac.mp ha];have:=h.2.1;omega⟩
 | .cell n w,h=>⟨zai rfl,fun a ha=>by
  rcases zao.mp ha with rfl | ha
  ·have:=h.1.2.1;omega
  ·rw [zac.mp ha];have:=h.2.2.1;omega⟩
 | .gain n q w,h=>⟨zai rfl,fun a ha=>by
  rcases zao.mp ha with rfl | ha
  ·have:=h.1.2.1;omega
  ·rcases zao.mp ha with rfl | ha
   ·have:=Ee h.2.2;omega
   ·rw [zac.mp ha];have:=h.2.1.2.1;omega⟩
 | .sum n ts,h=>⟨by simp only [Pt.args,List.length_cons,List.length_map];have:=h.2.1;omega,fun a ha=>by
  rcases zao.mp ha with rfl | ha
  ·have:=h.1.2.1;omega
  ·obtain⟨t,Y,rfl⟩:=zah.mp ha
   have:=(h.2.2 t Y).2.1
   unfold nh
   split<;>simp<;>omega⟩
 | .out w,h=>⟨zai rfl,fun a ha=>by rw [zac.mp ha];have:=h.2.1;omega⟩
theorem Ck (c:Nat):∀ps:List .bL,(jl c ps).length≤oA ps+ps.length
 |[]=>za4 _
 |[p]=>by simp [jl,oA]
 |p::q::r=>by
  have:=Ck c (q::r)
  rw [kH,zak,zaj]
  simp only [oA,List.map_cons,List.sum_cons,List.length_cons] at this ⊢
  omega
theorem Pt.row_len {p:Pt}(h:p.Ok):p.row.length≤60/\oA (p.kind::p.args)≤49:=by
 have h1:=Pt.len_args h
 have h2:=pG (m:=9) h1.2
 have W:=Ck 32 (p.kind::p.args)
 have N:p.kind.length≤4:=by cases p<;>exact zai rfl
 have D:oA (p.kind::p.args)=p.kind.length+oA p.args:=by simp [oA]
 rw [zaj] at W
 have g:p.args.length*9≤5*9:=zbC 9 h1.1
 unfold Pt.row
 omega
abbrev O6:List T->Option T:=cj 1 1 (ku Pe)
theorem qx {f g:FE}{τ:aE}{a b:.D}(h:f τ=some (tx a,τ))(h':g τ=some (tx b,τ))(hl:a.length+b.length≤1000):au aT f g τ=some (tx (a++b),τ):=aQ h h' (Fh hl)
theorem iy {k:String}{l:.D}(hk:.hc)(τ:aE):fC (.str (Str.ofString k)) τ=some (tx l,τ):=by rw [hk];rfl
theorem Lr (t:Bool×List Nat):(if t.1 then [32] else [32,45])++t.2=32::nh t:=by
 unfold nh
 cases t.1<;>rfl
theorem yz (c:Nat):∀(p:.D) (ps:.R),jl c (p::ps)=p++(ps.map (c::·)).flatten
 |p,[]=>by simp [jl]
 |p,q::r=>by rw [kH,yz c q r];simp
theorem J2 {p:Pt}(h:p.Ok):O6 [p.law]=some .hv:=by
 have hl:=Pt.row_len h
 refine .dQ
 show ku Pe [s p.law]=_
 unfold ku
 by_cases M:p.kind=[103,97,105,110]
 ·match p,M,h with
  | .gain n q w,_,h =>
   have hn:=h.1.2.1
   have hw:=h.2.1.2.1
   have hs:=Ee h.2.2
   have hf:ak Pe (.ac (.a br 0 2)) [s (Pt.gain n q w).law]=some (tx .a4,[s (Pt.gain n q w).law]):=aB _ (bJ .dd) (Q1 (a:=q.num) (b:=q.den) (zaK h.2.2.1 .c) (zaK h.2.2.2 .c))
   unfold aH
   rw [Hy (by rw [rO rfl qt sj];rfl),cO (qx (qx (qx (qx (qx (iy LH _) .dd .j) (iy Jq _) .j) hf .j) (iy Jq _) .j) .dd .j)]
   show some (R.rt (tx _))=some (R.rt (tx _))
   congr 3
   simp [Pt.row,Pt.kind,Pt.args,jl]
 ·rw [aS (fL (by rw [rO rfl qt sj,decide_eq_false M]))]
  by_cases hu:p.kind=[115,117,109]
  ·match p,hu,h with
   | .sum n ts,_,h =>
    have hn:=h.1.2.1
    have hk:=h.2.1
    have U:bq 2 [] (aX (.a br 0 2)) .bU aI .bI .hU=some (.lst ((ts.map nh).map fun w=>tx (32::w)),.hU):=by
     refine bX (ts:=ts.map jV) rfl rfl rfl ?_
     rw [zaC,show (ts.map ((fun w=>tx (32::w)) ∘ nh))=[]++ts.map fun t=>tx (32::nh t) from rfl]
     refine kc (φ:=fun t:Bool×List Nat=>T.int (Bb t.1)) (ψ:=fun t=>tx t.2) rfl _ _ _ _ (fun t Y=>?_) .az
     have hw:=(h.2.2 t Y).2.1
     have e1:au br (eT (.e (fC (.str " -")) (fC (.str " ")))) (ak gn (.ac (.i zw 0))) [.e (Bb t.1),s (tx t.2)]=some (tx (if t.1 then [32] else [32,45]),[.e (Bb t.1),s (tx t.2)]):=by
      refine aQ (jt (ts:=[tx [32,45],tx [32]]) (ck (iy QY _) (iy Jq _)) .c7) (aB [.bl (decide (Bb t.1>0))] (bJ .dd) (t:=.int (if t.1 then 1 else 0)) ?_) ?_
      ·cases t.1<;>rfl
      ·cases t.1<;>rfl
     rw [<- Lr]
     exact qx e1 rfl (by split<;>simp<;>omega)
    have S:=DI (ls:=(ts.map nh).map (32::·)) (by
     refine Nat.le_trans (pG (m:=10) fun l hl=>?_) .j
     obtain⟨x,hx,rfl⟩:=zah.mp hl
     obtain⟨t,Y,rfl⟩:=zah.mp hx
     have hw:=(h.2.2 t Y).2.1
     unfold nh
     split<;>simp<;>omega)
    rw [zaC] at S
    have r:(((ts.map nh).map (32::·)).flatten).length≤900:=by
     have:=yz 32 n (ts.map nh)
     have h2:=hl.1
     rw [Pt.row,Pt.args,kH,this] at h2
     simp only [List.length_append,List.length_cons] at h2
     omega
    have c:au dG (fC .fw) (.aq (.a br 0 2) .bI) .hU=some (tx (((ts.map nh).map (32::·)).flatten),.hU):=aQ rfl U S
    unfold aH
    rw [Hy (by rw [rO rfl Bj C4];rfl),cO (qx (qx (iy Oi _) .dd .j) c (by simp only [List.length_append,List.length_cons,List.length_nil];omega))]
    show some (R.rt (tx _))=some (R.rt (tx _))
    congr 3
    rw [Pt.row,Pt.args,kH,yz]
    simp [Pt.kind]
  ·rw [aS (fL (by rw [rO rfl Bj C4,decide_eq_false hu]))]
   have hp:p.law=.tup ((p.kind::p.args).map tx):=by
    cases p with
    |inp n=>exact congrArg (fun x=>T.tup [.str x,tx n]) CM
    |cell n w=>exact congrArg (fun x=>T.tup [.str x,tx n,tx w]) qr
    |gain n q w=>exact absurd rfl M
    |sum n ts=>exact absurd rfl hu
    |out w=>exact congrArg (fun x=>T.tup [.str x,tx w]) Jr
   rw [cO (aQ (iy Jq _) (show ae 0 [s p.law]=some (.tup ((p.kind::p.args).map tx),[s p.law]) by rw [<- hp];rfl) (Na 32 (by have:=(Pt.len_args h).1;rw [zaj];omega)))]
   rfl
theorem DD {l:.D}(h:NumText.AllDigits l)(hn:l≠[])(hl:l.length≤600):gn [tx l]=some (.af (NumText.digitsVal l:Nat)):=by
 show (if (S l).length≤640 then (PySem.intText? (S l)).map T.int else none)=_
 rw [cH,if_pos .e,PySem.intText_digits (by rw [ei];exact h) (by rw [ei];exact hn) (by rw [cH];omega),ei]
 rfl
theorem Kl {l:.D}(h:NumText.AllDigits l)(hn:l≠[])(hl:l.length≤600):gn [tx (45::l)]=some (.af (-(NumText.digitsVal l:Nat))):=by
 show (if (S (45::l)).length≤640 then (PySem.intText? (S (45::l))).map T.int else none)=_
 rw [cH,if_pos .j,PySem.intText_neg (cs:=l) (by rw [ei]) h hn (by rw [cH];simp;omega)]
 rfl
theorem Hz {n:Nat}(h:n<10^30):PZ (ds n)=true:=Kn.mpr ⟨⟨zM n,fV 29 n h⟩,gf n⟩
theorem Om {l:.D}(h:l.length≤1000):ON (tx l)=some (!decide (l=[])):=by
 show (.aL (((S l).length:Int) != 0))=_
 rw [cH,.ap (aR h)]
 cases l with
 |nil=>rfl
 |cons c r =>
  rw [decide_eq_false .h]
  congr 1
abbrev Pb:List T->Option T:=cj 5 1 (jk OB L0 Pd)
def sgn (a:Int):List Nat:=if a<0 then [45] else []
theorem D9 (a:Int):(sgn a).length≤1:=by unfold sgn;split<;>decide
theorem Ln {a:Int}(ha:a.natAbs≤99):sY (tx .aj) (tx [45])=some (tx (ds a.natAbs)):=by
 have hd:=gf a.natAbs
 have h1:=fV 1 a.natAbs .e
 have h2:=D9 a
 show (if (S .aj).length≤sizeLine then some (T.str (Txt.removeprefix (S .aj) (S [45]))) else none)=_
 rw [.ap (by rw [cH,zak];exact aR .e)]
 unfold sgn
 by_cases h:a<0
 ·rw [if_pos h,List.singleton_append,wO]
 ·rw [if_neg h,za7,wQ (fun e=>?_)]
  have:=hd 45 (List.mem_of_mem_head? (by rw [e];rfl))
  omega
theorem Km {a:Int}(ha:a.natAbs≤99):gn [tx .aj]=some (.af a):=by
 have hl:=fV 1 a.natAbs .e
 unfold sgn
 by_cases h:a<0
 ·rw [if_pos h,List.singleton_append,Kl (gf _) (zM _) .e,BU]
  congr 2
  omega
 ·rw [if_neg h,za7,DD (gf _) (zM _) .e,BU]
  congr 2
  omega
theorem Jc (a:Int)(c:Nat)(U:c∈sgn a++ds a.natAbs):c=45\/(48≤c/\c≤57):=by
 rcases zaz.mp U with h | h
 ·unfold sgn at h
  split at h
  ·exact .inl (zac.mp h)
  ·cases h
 ·exact .bg (gf _ c h)
theorem yX (a:Int)(b:Nat):gX a b=.aj++(if b=1 then [] else 47::ds b):=by
 unfold gX sgn
 rw [zaJ]
theorem Ef (a:Int)(b:Nat):∀c∈gX a b,c=45\/c=47\/(48≤c/\c≤57):=fun c U=>by
 rw [yX] at U
 rcases zaz.mp U with h | h
 ·rcases Jc a c h with h | h
  ·exact .inl h
  ·exact .bg (.inr h)
 ·split at h
  ·cases h
  ·rcases zao.mp h with h | h
   ·exact .bg (.inl h)
   ·exact .bg (.inr (gf _ c h))
theorem eN {f:FE}{τ τ':aE}{t:T}{b:Bool}(h:f τ=some (t,τ'))(hb:ON t=some b):dB f τ=some (b,τ'):=by
 unfold dB
 rw [h,zaa,hb]
 rfl
theorem oX {c:FT}{τ τ':aE}{b:Bool}(h:c τ=some (b,τ')):ny c τ=some (!b,τ'):=by
 unfold ny
 rw [h]
 rfl
theorem zN {n:Nat}(h:n≤99):(ds n).length≤2:=fV 1 n .e
theorem Qw {q:Rat}(h:OU q):Pb [tx .a4]=some (cm q):=by
 obtain⟨ha,hb⟩:=h
 have k:0<q.den:=zbt q.den_nz
 have M:Int.gcd q.num q.den=1:=q.reduced
 show _=some (zv q.num q.den)
 generalize q.num=a at *
 generalize q.den=b at *
 have x:=zN (n:=b) .e
 have y:=zN ha
 have A:=D9 a
 have no:47∉sgn a++ds a.natAbs:=fun z=>by
  have:=Jc a 47 z
  omega
 have B:(gX a b).length≤6:=by
  rw [yX]
  split<;>simp<;>omega
 have bd:(10:Nat)^30<10^72:=.c
 have d:=L7 (ds a.natAbs) .e
 rw [Hz (zaK ha .c)] at d
 have g:=L7 (ds b) .e
 rw [Hz (zaK hb .c)] at g
 have i:=Mc (a:=a) (b:=b) (zaK ha (zaS .f nU)) (zaK hb (zaS .f nU))
 rw [decide_eq_true (show 1≤b from k),decide_eq_true M] at i
 have p:=QF (a:=a) (b:=b) (zaK ha .c) (zaK hb .c)
 have r:∃m w,qG (tx (gX a b)) (tx [47])=some (.tup [tx .aj,tx m,tx w])/\m.length≤1/\(if m=[] then [49] else w)=ds b:=by
  have e:qG (tx (gX a b)) (tx [47])=some (T.tup [.str (Txt.partition (S (gX a b)) (S [47])).1,.str (Txt.partition (S (gX a b)) (S [47])).2.1,.str (Txt.partition (S (gX a b)) (S [47])).2.2]):=if_pos ⟨by rw [cH];rfl,by rw [cH];exact aR .e⟩
  rw [e,yX]
  by_cases h1:b=1
  ·rw [if_pos h1,zaA,K1 no]
   exact⟨[],[],rfl,.f,by rw [h1,qD .f];rfl⟩
  ·rw [if_neg h1,IA no]
   exact⟨[47],ds b,rfl,.f,rfl⟩
 obtain⟨m,w,e1,hm,e2⟩:=r
 refine .dQ
 show jk OB L0 Pd .en=_
 unfold jk
 have i1:ak bV (.c 0 (fC (.ty "str"))) .en=some (.bl true,.en):=aB _ .bv rfl
 rw [aS (fL (oX (eN i1 rfl))),aS (show kh (.e qG 0 (.str "/")) (bS (aA (ai 1) (.a 2 3))) .en=some (.nx .fM) by
  unfold kh
  rw [aQ rfl (iy uy _) e1]
  rfl)]
 have W:dA (ny (dB (ae 2))) (bF 3 (fC (.str "1"))) bY .fM=some (.nx .X):=by
  have Y:=oX (eN (f:=ae 2) (τ:=.fM) rfl (Om (l:=m) .e))
  rw [Bool.not_not] at Y
  by_cases h:m=[]
  ·rw [if_pos h] at e2
   rw [Hy (by rw [Y,decide_eq_true h]),<- e2]
   exact cF (iy Q0 _) rfl
  ·rw [if_neg h] at e2
   rw [fL (by rw [Y,decide_eq_false h]),e2]
 rw [aS W]
 have c1:ak OB (.ac (.e sY 1 .hD)) .X=some (.bl true,.X):=aB _ (bJ (aQ rfl (iy rY _) (Ln ha))) d
 have c2:ak OB (bI 3) .X=some (.bl true,.X):=aB _ .aV g
 rw [aS (fL (qJ (oX (eN c1 rfl)) (oX (eN c2 rfl))))]
 have t:eh (.e (.l gn 1) (.l gn 3)) .X=some (zv a b,.X):=ko (ck (.am (Km ha)) (.am (by rw [DD (gf _) (zM _) .e,BU])))
 rw [aS (cF (τ2:=.bx) t rfl)]
 have j:ak L0 (bI 4) .bx=some (.bl true,.bx):=aB _ .aV i
 have v:pM (gX a b):=fun c U=>by have:=Ef a b c U;omega
 have u:du (au xS (.l Pd 4) (ae 0)) .bx=some (false,.bx):=gg (aQ (.am p) rfl (by rw [MZ v v,decide_eq_true rfl];rfl))
 rw [aS (fL (qJ (oX (eN j rfl)) u))]
 rfl
theorem Jk (l:.D):JE (tx (45::l)) (tx [45])=some .b4:=by
 show some (T.bl (Txt.startswith (S (45::l)) (S [45])))=_
 rw [Txt.startswith.eq_1,cH,cH,StrLaws.subAt_eq,ei,ei,cH]
 simp
theorem Jl {l:.D}(h:l.head?≠some 45):JE (tx l) (tx [45])=some .U:=by
 show some (T.bl (Txt.startswith (S l) (S [45])))=_
 rw [Txt.startswith.eq_1,cH,cH,StrLaws.subAt_eq,ei,ei,cH]
 cases l with
 |nil=>simp
 |cons c r =>
  simp at h
  simp [h]
theorem Kj:∀i:Fin 26,(match qR (.str ⟨#[97+i.val]⟩) .z with | some (.bl b)=>b | _=>false)=true:=.c
theorem M4 {c:Nat}(h:97≤c/\c≤122):qR (.str ⟨#[c]⟩) .z=some .b4:=by
 have:=Kj ⟨c-97,.e⟩
 rw [show 97+(⟨c-97,.e⟩:Fin 26).val=c by show 97+(c-97)=c;omega] at this
 split at this
 ·next b e=>rw [e,this]
 ·cases this
theorem all_true {α:Type}{φ:α->T}:∀l:List α,(∀x∈l,φ x=.bl true)->kA [.lst (l.map φ)]=some .b4:=fun l h=>by
 have e:∀l:List α,(∀x∈l,φ x=.bl true)->boolsOf (l.map φ)=some (l.map fun _=>true):=by
  intro l
  induction l with
  |nil=>intro _;rfl
  |cons a l A =>
   intro h
   rw [zag,h a zad]
   show (boolsOf (l.map φ)).bind _=_
   rw [A fun x hx=>h x (.aT hx)]
   rfl
 show (boolsOf (l.map φ)).bind _=_
 rw [e l h]
 show some (T.bl ((l.map fun _=>true).all id))=_
 rw [zch]
 simp
abbrev O9:List T->Option T:=cj 1 1 mZ
theorem Qb {l:.D}(h:uN l):O9 [tx l]=some .b4:=by
 have h0:1≤l.length:=by
  have:=h.1
  cases l with
  |nil=>exact absurd rfl this
  |cons a b=>simp
 refine .dQ
 show mZ .d2=_
 unfold mZ
 have hlen:ak cJ (bI 0) .d2=some (.int (l.length:Nat),.d2):=aB _ .aV (Mi (by have:=h.2.1;omega))
 have U:bq 1 [] (sV (ae 0)) (ai 0) aI (.e qR 0 .z) .d2=some (.lst .gJ,.d2):=by
  refine bX (ts:=l.map fun c=>T.str ⟨#[c]⟩) (show some (jT (S l),_)=_ by rw [Eh]) rfl rfl ?_
  exact bP (g:=fun _=>T.bl true) rfl l none [] (fun c U=>aQ rfl rfl (M4 (h.2.2 c U))) (by simpa using aR (by have:=h.2.1;omega))
 exact cO (by rw [xj (Dc hlen rfl .e (by have:=h.2.1;omega)),aB _ (bJ U) (all_true (φ:=fun _=>T.bl true) l fun _ _=>rfl)])
abbrev JD:List T->Option T:=cj 2 2 (jj O9)
theorem zD {ls:.R}{n:Nat}(hn:ls.length=n)(hl:n≤100)(h:∀l∈ls,uN l):JD [cn ls,bf n]=some .b4:=by
 refine .dQ
 show jj O9 [.aO ls,.j n]=_
 unfold jj
 have hlen:au il (.l cJ 0) (ae 1) [.aO ls,.j n]=some (.bl true,[.aO ls,.j n]):=aQ (.am lG) rfl (by rw [MO,hn,decide_eq_true rfl])
 have U:bq 1 [] .dr (ai 0) aI (.l O9 0) [.aO ls,.j n]=some (.lst (ls.map fun _=>T.bl true),[.aO ls,.j n]):=by
  refine bX (ts:=ls.map tx) rfl rfl rfl ?_
  exact bP (g:=fun _=>T.bl true) rfl ls none [] (fun l hl=>aB _ .aV (Qb (h l hl))) .az
 exact cO (by rw [xj hlen,aB _ (bJ U) (all_true (φ:=fun _=>T.bl true) ls fun _ _=>rfl)])
abbrev Rt:List T->Option uM:=dI 2 1 gm
abbrev Rp:List T->Option uM:=dI 3 2 fj
abbrev Rr:List T->Option uM:=dI 4 3 fq
abbrev Rv:List T->Option uM:=dI 3 2 fR
abbrev Ru:List T->Option uM:=dI 2 1 fQ
theorem Sy:.aP (Str.ofString "source"):=.c
theorem Sz:.aP (Str.ofString "by"):=.c
theorem SD:¬ (Str.ofString "source")∈([]++[Str.ofString "name"]++[Str.ofString "by"]:List Str):=.c
theorem SF:.aP (Str.ofString "terms"):=.c
theorem PQ (t:T):Rt [t]=some ((["name"]:List Str),[t]):=wa ⟨rfl,fun x=>by
 show gm x [fP .hK,fP t] [] []=_
 unfold gm
 rw [.ek]
 rfl⟩
theorem PM (t u:T):Rp [t,u]=some ((["name",.cP]:List Str),[t,u]):=wa ⟨rfl,fun x=>by
 show fj x [fP .hK,fP t,fP u] [] []=_
 unfold fj
 rw [.ek,fX (t:=u) rfl rfl ⟨Sy,zai rfl⟩ rfl]
 rfl⟩
theorem PN (t u v:T):Rr [t,u,v]=some ((["name","by",.cP]:List Str),[t,u,v]):=wa ⟨rfl,fun x=>by
 show fq x [fP .hK,fP t,fP u,fP v] [] []=_
 unfold fq
 rw [.ek,fX (t:=u) rfl rfl ⟨Sz,zai rfl⟩ rfl,fX (t:=v) rfl rfl ⟨SD,zai rfl⟩ rfl]
 rfl⟩
theorem PX (t u:T):Rv [t,u]=some ((["name","terms"]:List Str),[t,u]):=wa ⟨rfl,fun x=>by
 show fR x [fP .hK,fP t,fP u] [] []=_
 unfold fR
 rw [.ek,fX (t:=u) rfl rfl ⟨SF,zai rfl⟩ rfl]
 rfl⟩
theorem PU (t:T):Ru [t]=some ((["source"]:List Str),[t]):=wa ⟨rfl,fun x=>by
 unfold fQ
 rw [fX rfl rfl ⟨zar,.f⟩ rfl]
 rfl⟩
theorem Aa {c:FT}{f g:FE}{τ τ':aE}(h:c τ=some (true,τ')):zP c f g τ=f τ':=by
 unfold zP
 rw [h]
 rfl
theorem Mb {c:FT}{f g:FE}{τ τ':aE}(h:c τ=some (false,τ')):zP c f g τ=g τ':=by
 unfold zP
 rw [h]
 rfl
theorem C6 {c d:FT}{τ τ':aE}(h:c τ=some (true,τ')):kE c d τ=d τ':=by
 unfold kE
 rw [h]
 rfl
theorem LX {c d:FT}{τ τ':aE}(h:c τ=some (false,τ')):kE c d τ=some (false,τ'):=by
 unfold kE
 rw [h]
 rfl
theorem Oo {fb:FS}{i:FX}{fh:LP}{τ:aE}{r:R}(h:fb τ=some r):G4 fb i fh τ=some r:=by
 unfold G4
 rw [h]
abbrev Ra:List T->Option T:=cj 2 1 (gU O0 Pb)
theorem Pp {q:Rat}(h:OU q):Ra [tx .a4]=some (cm q):=by
 refine .dQ
 show gU O0 Pb [.l .a4,none]=_
 unfold gU
 have h1:ak Pb (bI 0) [.l .a4,none]=some (cm q,[.l .a4,none]):=aB _ .aV (Qw h)
 rw [aS (Oo (cF (τ2:=[.l .a4,.aY q]) h1 rfl))]
 have c1:du (au uY (.j sL (.S 1)) (aF 99)) [.l .a4,.aY q]=some (true,[.l .a4,.aY q]):=gg (aQ (aB _ (bJ (t:=.int q.num) .dd) (sM _)) rfl (by
  show some (.bc ((q.num.natAbs:Int)≤99))=_
  rw [decide_eq_true (by have:=h.1;omega)]))
 have c2:du (au uY (.i br 1) (aF 12)) [.l .a4,.aY q]=some (true,[.l .a4,.aY q]):=gg (aQ (a:=.int (q.den:Int)) .dd rfl (by
  show some (.bc ((q.den:Int)≤12))=_
  rw [decide_eq_true (by have:=h.2;omega)]))
 exact cO (by rw [Aa (by rw [C6 c1,c2])];rfl)
abbrev Ri:List T->Option T:=cj 4 3 (jm cM Ra JD Rr)
theorem Qx {n w:.D}{q:Rat}(h:(Pt.gain n q w).Ok):Ri [tx n,tx .a4,tx w]=some (Pt.gain n q w).obj:=by
 refine .dQ
 show jm cM Ra JD Rr [.l n,.l .a4,.l w,none]=_
 unfold jm
 rw [aS (cF (τ2:=.d7) (.am (Pp h.2.2)) rfl)]
 have c1:du (au xR (ae 3) (fC .non)) .d7=some (true,.d7):=rfl
 have c2:dB (ak JD (.e (eT (.p 0 2)) (aF 2))) .d7=some (true,.d7):=eN (aB _ (ck (t:=cn [n,w]) (jt .bv .c7) rfl) (zD (n:=2) rfl .f fun l hl=>by
  rcases zao.mp hl with rfl | hl
  ·exact h.1
  ·rw [zac.mp hl];exact h.2.1)) rfl
 exact cO (by rw [Aa (by rw [C6 c1,c2]),Fv (qP rfl rfl rfl) (PN _ _ _)];rfl)
abbrev Rl:List T->Option T:=cj 3 2 (kz cI JD Rv)
theorem Gi {t:Bool×List Nat}(h:uN t.2):JE (tx (nh t)) (tx [45])=some (.bl (!t.1))/\sY (tx (nh t)) (tx [45])=some (tx t.2)/\(nh t).length≤9:=by
 have hl:=h.2.1
 have c:t.2.head?≠some 45:=fun e=>by
  have:=h.2.2 45 (List.mem_of_mem_head? (by rw [e];rfl))
  omega
 have d:∀(l m:.D),l.length≤900->Txt.removeprefix (S l) (S [45])=S m->sY (tx l) (tx [45])=some (tx m):=fun l m hl e=>by
  show (.aL (T.str (Txt.removeprefix (S l) (S [45]))))=_
  rw [.ap (by rw [cH];exact aR .e),e]
 obtain⟨b,l⟩:=t
 have f:l.length≤8:=hl
 cases b with
 |true=>exact⟨Jl c,d _ _ (by simp [nh];omega) (wQ c),by simp [nh];omega⟩
 |false=>exact⟨Jk l,d _ _ (by simp [nh];omega) (wO l),by simp [nh];omega⟩
theorem QC {n:.D}{ts:.dD}(h:(Pt.sum n ts).Ok):Rl [tx n,cn (ts.map nh)]=some (Pt.sum n ts).obj:=by
 have hk:=h.2.1
 refine .dQ
 show kz cI JD Rv [.l n,.aO (ts.map nh),none]=_
 unfold kz
 have U:bq 1 [] (aX (ae 1)) (ai 0) aI (eh (.e (zP (dB (.e JE 0 .hD)) .gk (aF 1)) (.e sY 0 .hD))) [.l n,.aO (ts.map nh),none]=some (.lst (ts.map jV),[.l n,.aO (ts.map nh),none]):=by
  refine bX (ts:=ts.map fun t=>tx (nh t)) (show some ((ts.map nh).map tx,_)=_ by rw [zaC];rfl) rfl rfl ?_
  rw [show ts.map jV=[]++ts.map jV from rfl]
  refine bP (φ:=fun t:Bool×List Nat=>tx (nh t)) rfl ts none [] (fun t Y=>?_) .az
  obtain⟨S,K,k⟩:=Gi (h.2.2 t Y)
  refine ko (ck (t:=.int (Bb t.1)) (u:=tx t.2) ?_ (aQ rfl (iy rY _) K))
  have c:=eN (f:=au JE (ae 0) (fC .hD)) (τ:=[s (tx (nh t))]) (aQ rfl (iy rY _) S) (b:=!t.1) (by cases t.1<;>rfl)
  cases Y:t.1 with
  |true =>
   rw [Y] at c
   exact (Mb c).trans rfl
  |false =>
   rw [Y] at c
   exact (Aa c).trans rfl
 rw [aS (cF (τ2:=.bS) (aB _ (bJ U) rfl) rfl)]
 have d:bq 2 [] (aX (ae 2)) .bU aI (ae 1) .bS=some (.lst (ts.map fun t=>tx t.2),.bS):=by
  refine bX (ts:=ts.map jV) rfl rfl rfl ?_
  exact kc (φ:=fun t:Bool×List Nat=>T.int (Bb t.1)) (ψ:=fun t=>tx t.2) (g:=fun t=>tx t.2) rfl ts none none [] (fun t Y=>rfl) .az
 have c2:dB (ak JD (.e (.Q (eT (bI 0)) (.aq (ae 2) (ae 1))) (.Q (.l cJ 2) (aF 1)))) .bS=some (true,.bS):=by
  refine eN (aB _ (ck (t:=cn (n::ts.map (·.2))) (u:=.int ((ts.length+1:Nat):Int)) (aQ (jt .aV (Nat.le_of_ble_eq_true rfl)) d ?_) (aQ (aB [.tup (ts.map jV)] .aV (t:=.int (ts.length:Nat)) ?_) rfl (ib (b:=1)))) (zD (n:=ts.length+1) .h .e fun l hl=>?_)) rfl
  ·rw [ml (by rw [List.length_map];exact aR .j)]
   unfold cn
   rw [zag,zaC]
   rfl
  ·show some (T.int ((ts.map jV).length:Nat))=_
   rw [zaf]
  ·rcases zao.mp hl with rfl | hl
   ·exact h.1
   ·obtain⟨t,Y,rfl⟩:=zah.mp hl
    exact h.2.2 t Y
 exact cO (by rw [Aa c2,Fv .bv (PX _ _)];rfl)
theorem Ei (c:Nat){ls:.R}(h0:ls≠[])(hf:∀l∈ls,c∉l)(h1:(jl c ls).length≤16777216)(h2:ls.length≤1000):ip (tx (jl c ls)) (tx [c])=some (cn ls):=by
 have e:Txt.split (S (jl c ls)) (S [c])=ls.map S:=by
  rw [<- Cm,show S [c]=one c from rfl,Bk]
  exact CH (by simpa using h0) fun p hp=>by
   obtain⟨l,hl,rfl⟩:=zah.mp hp
   rw [BI]
   exact hf l hl
 show (if ((S [c]).length == 0)=false/\(S (jl c ls)).length≤sizeLine/\(Txt.split (S (jl c ls)) (S [c])).length≤sizeLine then some (T.lst ((Txt.split (S (jl c ls)) (S [c])).map T.str)) else none)=_
 rw [e,if_pos ⟨by rw [cH];rfl,by rw [cH];exact h1,by rw [zaf];exact aR h2⟩,zaC]
 rfl
theorem Pt.vis:∀{p:Pt},p.Ok->∀l∈p.kind::p.args,∀c∈l,33≤c/\c<128:=by
 intro p h l hl c U
 have nm:∀{n:.D},uN n->c∈n->33≤c/\c<128:=fun hn U=>by have:=hn.2.2 c U;omega
 rcases zao.mp hl with rfl | hl
 ·cases p<;>simp only [Pt.kind,List.mem_cons,List.not_mem_nil,or_false] at U<;>omega
 ·match p,h with
  | .inp n,h=>rw [zac.mp hl] at U;exact nm h U
  | .cell n w,h =>
   rcases zao.mp hl with rfl | hl
   ·exact nm h.1 U
   ·rw [zac.mp hl] at U;exact nm h.2 U
  | .gain n q w,h =>
   rcases zao.mp hl with rfl | hl
   ·exact nm h.1 U
   ·rcases zao.mp hl with rfl | hl
    ·have:=Ef _ _ c U
     omega
    ·rw [zac.mp hl] at U;exact nm h.2.1 U
  | .sum n ts,h =>
   rcases zao.mp hl with rfl | hl
   ·exact nm h.1 U
   ·obtain⟨t,Y,rfl⟩:=zah.mp hl
    rcases zaz.mp U with U | U
    ·split at U
     ·cases U
     ·have:=zac.mp U
      omega
    ·exact nm (h.2.2 t Y) U
  | .out w,h=>rw [zac.mp hl] at U;exact nm h U
theorem HD {c x:Nat}:∀{ls:.R},x∈jl c ls->x=c\/∃l∈ls,x∈l
 |[],h=>by cases h
 |[p],h=>.inr ⟨p,zac.mpr rfl,h⟩
 |p::q::r,h=>by
  rw [kH] at h
  rcases zaz.mp h with h | h
  ·exact .bg ⟨p,zad,h⟩
  ·rcases zao.mp h with h | h
   ·exact .inl h
   ·rcases HD h with h | ⟨l,hl,hx⟩
    ·exact .inl h
    ·exact .bg ⟨l,zae _ hl,hx⟩
theorem Pt.row_mem {p:Pt}(h:p.Ok){c:Nat}(U:c∈p.row):32≤c/\c<128:=by
 rcases HD U with rfl | ⟨l,hl,hx⟩
 ·omega
 ·have:=Pt.vis h l hl c hx
  omega
abbrev OF:List T->Option T:=cj 3 1 (jn dR dz eW JD Ri Rl Rt Rp Ru)
theorem Jz {p:Pt}{τ:aE}{k:String}{l:.D}(h:τ[1]? = some (s (tx p.kind)))(hk:.hc)(hl:pM l):du (.aC (ae 1)) τ=some (decide (p.kind=l),τ):=
 gg (aQ (uE h) (iy hk τ) (Hj (Ax p) hl))
theorem ne_if {p:Pt}{τ:aE}{k:String}{l:.D}{c:FT}{t:FS}(h:τ[1]? = some (s (tx p.kind)))(hk:.hc)(hl:pM l)(hn:p.kind≠l):dA (kE (du (.aC (ae 1))) c) t bY τ=some (.nx τ):=fL (LX (by rw [Jz h hk hl,decide_eq_false hn]))
theorem uI {p:Pt}{τ:aE}{k:String}{l:.D}{c:FT}{t:FS}(h:τ[1]? = some (s (tx p.kind)))(hk:.hc)(hl:pM l)(hn:p.kind=l)(U:c τ=some (true,τ)):dA (kE (du (.aC (ae 1))) c) t bY τ=t τ:=Hy (by rw [C6 (by rw [Jz h hk hl,decide_eq_true hn]),U])
theorem Ba {a b:FS}{τ:aE}{t:T}(h:a τ=some (.rt t)):aH a b τ=some (.rt t):=by
 unfold aH
 rw [h]
 rfl
theorem QA {p:Pt}(h:p.Ok):OF [tx p.row]=some p.obj:=by
 have hl:=Pt.row_len h
 have ha:=Pt.len_args h
 have hs:ip .hv (tx [32])=some (cn (p.kind::p.args)):=Ei 32 .h (fun l hl U=>by have:=Pt.vis h l hl 32 U;omega) (Nat.le_trans hl.1 .f) (by rw [List.length_cons];omega)
 refine .dQ
 show jn dR dz eW JD Ri Rl Rt Rp Ru [s .hv,none,none]=_
 unfold jn
 rw [aS (show kh (.e ip 0 (.str " ")) (xU (.a 1 2)) [s .hv,none,none]=some (.nx [s .hv,s (tx p.kind),s (cn p.args)]) by
  unfold kh
  rw [aQ rfl (iy Jq _) hs]
  rfl)]
 clear hs
 have f:∀(τ:aE) (i:Nat),τ[2]? = some (s (cn p.args))->i<p.args.length->au br (ae 2) (fC (bf i)) τ=some (tx (p.args.getD i []),τ):=fun τ i h hi=>aQ (uE h) rfl (zk hi)
 match p,h with
 | .inp n,h =>
  refine Ba ?_
  rw [uI (p:=.inp n) rfl CM GA rfl (eN (aB _ .bv (zD (ls:=[n]) (n:=1) rfl .f fun l hl=>by rw [zac.mp hl];exact h)) rfl)]
  exact cO (Fv (bJ (f _ 0 rfl .c7)) (PQ _))
 | .cell n w,h =>
  rw [aS (ne_if (p:=.cell n w) rfl CM GA .cC)]
  refine Ba ?_
  rw [uI (p:=.cell n w) rfl qr xi rfl (eN (aB _ .bv (zD (ls:=[n,w]) (n:=2) rfl .f fun l hl=>by
   rcases zao.mp hl with rfl | hl
   ·exact h.1
   ·rw [zac.mp hl];exact h.2)) rfl)]
  exact cO (Fv (ck (f _ 0 rfl .c7) (f _ 1 rfl .c7)) (PM _ _))
 | .gain n q w,h =>
  rw [aS (ne_if (p:=.gain n q w) rfl CM GA .cC),aS (ne_if (p:=.gain n q w) rfl qr xi .cC)]
  refine Ba ?_
  rw [uI (p:=.gain n q w) rfl qt sj rfl (gg (aQ (.am lG) rfl rfl))]
  exact cO (aB _ (qP (f _ 0 rfl .c7) (f _ 1 rfl .c7) (f _ 2 rfl .c7)) (Qx h))
 | .sum n ts,h =>
  have hk:=h.2.1
  rw [aS (ne_if (p:=.sum n ts) rfl CM GA .cC),aS (ne_if (p:=.sum n ts) rfl qr xi .cC),aS (ne_if (p:=.sum n ts) rfl qt sj .cC)]
  refine Ba ?_
  rw [uI (p:=.sum n ts) rfl Bj C4 rfl (gg (Dc (b:=((ts.length+1:Nat):Int)) (c:=5) (aB _ .aV (by rw [lG];simp [Pt.args])) rfl .e .e))]
  refine cO (aB _ (ck (t:=tx n) (u:=cn (ts.map nh)) (f _ 0 rfl (by simp [Pt.args])) ?_) (QC h))
  unfold qE cT cP
  rw [show ae 2 .aZ=some (cn (Pt.sum n ts).args,.aZ) from rfl,zaa]
  dsimp only
  rw [show aF 1 .aZ=some (.int ((1:Nat):Int),.aZ) from rfl,zaa]
  dsimp only
  rw [zaa]
  dsimp only
  rw [zaa]
  show ((some (T.lst (pV ((n::ts.map nh).map tx) (some ((1:Nat):Int)) none))).bind _:Option (T×aE))=_
  unfold pV
  rw [HT.pj,HT.ud,List.length_map,List.length_cons,Nat.min_eq_left .e,List.map_cons,List.drop_one,List.tail_cons,List.take_of_length_le .h]
  rfl
 | .out w,h =>
  rw [aS (ne_if (p:=.out w) rfl CM GA .cC),aS (ne_if (p:=.out w) rfl qr xi .cC),aS (ne_if (p:=.out w) rfl qt sj .cC),aS (ne_if (p:=.out w) rfl Bj C4 .cC)]
  refine Ba ?_
  rw [uI (p:=.out w) rfl Jr OX rfl (eN (aB _ .bv (zD (ls:=[w]) (n:=1) rfl .f fun l hl=>by rw [zac.mp hl];exact h)) rfl)]
  exact cO (Fv (bJ (f _ 0 rfl .c7)) (PU _))
abbrev O7:List T->Option T:=cj 1 1 (ji O6)
def textOf (ps:.ap):List Nat:=jl 10 (ps.map Pt.row)
theorem A1 {ps:.ap}(h:∀p∈ps,p.Ok)(hl:ps.length≤24):oA (ps.map Pt.row)+(ps.map Pt.row).length≤2000:=by
 have:=pG (m:=60) (ls:=ps.map Pt.row) fun l hl=>by
  obtain⟨p,hp,rfl⟩:=zah.mp hl
  exact (Pt.row_len (h p hp)).1
 rw [zaf] at this ⊢
 have h2:ps.length*60≤24*60:=zbC 60 hl
 omega
theorem J3 {ps:.ap}(h:∀p∈ps,p.Ok)(hl:ps.length≤24):O7 [.lst .eP]=some (tx .cr):=by
 refine .dQ
 show ji O6 [s .J]=_
 unfold ji
 have U:bq 1 [] .dr (ai 0) aI (.l O6 0) [s .J]=some (cn (ps.map Pt.row),[s .J]):=by
  refine bX (ts:=ps.map Pt.law) rfl rfl rfl ?_
  rw [zaC,show ps.map (tx ∘ Pt.row)=[]++ps.map fun p=>tx p.row from rfl]
  exact bP rfl ps none [] (fun p hp=>aB _ .aV (J2 (h p hp))) .az
 have:=A1 h hl
 exact cO (aQ (iy QZ _) U (M9 10 .e))
abbrev JX:List T->Option T:=cj 5 1 (iM OF)
def RI:FS:=(aH (bF 4 (.l OF 3)) (aH (.G (au OI (ae 4) (fC .non)) fB) (eQ 1 (ae 4))))
theorem KN (p:Pt):OI p.obj .non=some .U:=by cases p<;>rfl
theorem D0 (t:T):∀(ps:.ap) (k:Nat) (ts:List T) (g j B:.aB),(∀p∈ps,p.Ok)->ts.length+ps.length≤900->∃K I V,cN (bS (.a 2 3)) RI (Di k (ps.map fun p=>tx p.row)) [s t,.o ts,g,j,B]=some (.nx [s t,.o (ts++ps.map Pt.obj),K,I,V])
 |[],k,ts,g,j,B,_,_=>⟨g,j,B,by simp [cN,Di]⟩
 |p::ps,k,ts,g,j,B,h,hl=>by
  rw [zaj] at hl
  obtain⟨K,I,V,h2⟩:=D0 t ps (k+1) (ts++[p.obj]) .ca (s .hv) (s p.obj) (fun x hx=>h x (.aT hx)) .a5
  refine⟨K,I,V,?_⟩
  have hB:RI [s t,.o ts,.j k,s .hv,B]=some (.nx [s t,.o (ts++[p.obj]),.j k,s .hv,s p.obj]):=by
   unfold RI
   rw [aS (cF (τ2:=[s t,.o ts,.j k,s .hv,s p.obj]) (.am (QA (h p zad))) rfl),aS (fL (gg (.q (KN p))))]
   exact ma (ts:=ts) rfl rfl (bN .e)
  rw [zag,Di,cW rfl hB,h2]
  simp
theorem N0 {ps:.ap}(h0:ps≠[])(h:∀p∈ps,p.Ok)(hl:ps.length≤24):JX [tx .cr]=some (.al .b1):=by
 obtain⟨K,I,V,h2⟩:=D0 (tx .cr) ps 0 [] none none none h .j
 have hr:=A1 h hl
 have hs:ip (tx .cr) (tx [10])=some (cn (ps.map Pt.row)):=Ei 10 (by simpa using h0) (fun l hl U=>by
  obtain⟨p,hp,rfl⟩:=zah.mp hl
  have:=Pt.row_mem (h p hp) U
  omega) (by have:=Ck 10 (ps.map Pt.row);omega) .fc
 refine .dQ
 show iM OF [.l .cr,none,none,none,none]=_
 have e:iM OF=aH (bK 1 ar) (aH (fW (sU (.ac (.e ip 0 (.str "\n")))) (bS (.a 2 3)) RI) (.a1 1)) := rfl
 rw [e, aS (show bK 1 ar [.l .cr, none, none, none, none] = some (.nx .hu) from rfl)]
 have hf : sU (.ac (.e ip 0 (.str "\n"))) .hu = some (Di 0 (ps.map fun p => tx p.row), .hu) := by
  unfold sU
  rw [bJ (aQ rfl (iy QZ _) hs), zaa]
  show some (Di 0 ((ps.map Pt.row).map tx), _) = _
  rw [zaC]
  rfl
 rw [aS (iz hf h2)]
 rfl
noncomputable def Pt.cls : Pt->Addr
 | .inp _ => dR
 | .cell _ _ => dz
 | .gain _ _ _ => cM
 | .sum _ _ => cI
 | .out _ => eW
abbrev xF : List T->Option T := cj 1 1 nK
abbrev BP : List T->Option T := cj 1 1 (nE dz cM eW)
abbrev BQ : List T->Option T := cj 1 1 (nI dz cM eW)
abbrev BS : List T->Option T := cj 1 1 (iF cI)
abbrev BR : List T->Option T := cj 1 1 (oJ dz cM eW)
abbrev LW : List .aW := [(ic, xF), (dR, xF), (dz, BP), (cM, BQ), (cI, BS), (eW, BR)]
theorem SN : ¬ (Str.ofString "wants")∈(.aQ : List Str) := by decide +kernel
theorem SJ : ¬ (Str.ofString "tells")∈(.aQ : List Str) := by decide +kernel
noncomputable def Pt.flds : Pt->List Str
 | .inp _ => ["name"]
 | .cell _ _ => ["name",.cP]
 | .gain _ _ _ => ["name","by",.cP]
 | .sum _ _ => ["name","terms"]
 | .out _ => ["source"]
noncomputable def Pt.vals : Pt->List T
 | .inp n => [tx n]
 | .cell n w => [tx n, tx w]
 | .gain n q w => [tx n, cm q, tx w]
 | .sum n ts => [tx n, .tup (ts.map jV)]
 | .out w => [tx w]
theorem Np (p : Pt): p.obj = .obj p.cls p.flds p.vals := by cases p<;>rfl
theorem Hb (p : Pt): ∀x∈p.flds, x∈(.aQ : List Str) := by
 intro x hx
 cases p<;>simp only [Pt.flds, List.mem_cons, List.not_mem_nil, or_false] at hx ⊢
 ·exact .inl hx
 ·rcases hx with h | h
  ·exact .inl h
  ·exact .bg (.inl h)
 ·rcases hx with h | h | h
  ·exact .inl h
  ·exact .bg (.inr (.inl h))
  ·exact .bg (.inl h)
 ·rcases hx with h | h
  ·exact .inl h
  ·exact .bg (.inr (.inr h))
 ·exact .bg (.inl hx)
theorem Qr {p : Pt}{alts : List .aW}{m : Str}{fo : FE}{g : FA}{τ τ1 τ2 : aE}{qs : List T}{d : List T->Option T}{t : T}(hm : ¬ m∈(.aQ : List Str))(h : fo τ = some (p.obj, τ1))(hf : qF p.cls alts = some d)(M : g τ1 = some (qs, τ2))(hd : d (p.obj::qs) = some t): cv alts m fo g τ = some (t, τ2) := by
 rw [Np] at h hd
 exact qa h (fun z => hm (Hb p m z)) hf M hd
noncomputable abbrev dW : Pt->List T->Option T
 | .inp _ => xF
 | .cell _ _ => BP
 | .gain _ _ _ => BQ
 | .sum _ _ => BS
 | .out _ => BR
theorem MT (p : Pt): qF p.cls LW = some (dW p) := by cases p<;>rfl
theorem xO (τ : aE): ar τ = some ([], τ) := rfl
theorem Tr {p : Pt}(h : p.Ok): dW p [p.obj] = some (.tup (p.ws.map tx)) := by
 cases p with
 |inp n => rfl
 |cell n w => exact cu rfl (cO (ko .aV))
 |gain n q w => exact cu rfl (cO (ko .aV))
 |out w => exact cu rfl (cO (ko .aV))
 |sum n ts =>
  refine .dQ
  show iF cI [s (Pt.sum n ts).obj] = _
  unfold iF
  have U : bq 2 [] (aX (dJ [cI] "terms" (ae 0))) .bU aI (ae 1) [s (Pt.sum n ts).obj] = some (.lst (ts.map fun t => tx t.2), [s (Pt.sum n ts).obj]) := by
   refine bX (ts := ts.map jV) rfl rfl rfl ?_
   exact kc (φ := fun t : Bool×List Nat => T.int (Bb t.1)) (ψ := fun t => tx t.2) (g := fun t => tx t.2) rfl ts none none [] (fun t Y => rfl) (by simpa using aR (by have := h.2.1;omega))
  refine cO (aB _ (bJ U) ?_)
  show some (T.tup (ts.map fun t => tx t.2)) = some (T.tup ((ts.map (·.2)).map tx))
  rw [zaC]
  rfl
theorem Ey {p : Pt}(h : p.Ok){fo : FE}{τ τ1 : aE}(ho : fo τ = some (p.obj, τ1)): cv LW "wants" fo ar τ = some (.tup (p.ws.map tx), τ1) := Qr SN ho (MT p) (xO _) (Tr h)
theorem qb {p : Pt}{n : List Nat}(h : p.nm = some n){fo : FE}{τ τ1 : aE}(ho : fo τ = some (p.obj, τ1)): dJ [dR, dz, cM, cI] "name" fo τ = some (tx n, τ1) := by
 unfold dJ
 rw [ho]
 cases p with
 |out w => cases h
 |_ => cases h;rfl
theorem AU {k : Str} : ∀{ns : List Str}, k∉ns->putN ns k = ns++[k]
 |[], _ => rfl
 |n::ns, h => by
  rw [putN, if_neg (fun e => h (by rw [e];exact zad)), AU fun z => h (.aT z)]
  rfl
theorem AV {α : Type}{k : Str}{w : α} : ∀{ns : List Str} {vs : List α}, vs.length = ns.length->k∉ns->lU ns vs k w = vs++[w]
 |[], [], _, _ => rfl
 |[], _::_, h, _ => by cases h
 |n::ns, [], h, _ => by cases h
 |n::ns, v::vs, h, hk => by
  rw [lU, if_neg (fun e => hk (by rw [e];exact List.mem_cons_self)), AV .an fun z => hk (.Y z)]
  rfl
theorem rT {ns : List Str}{vs : List T}{k : Str}{w : T}(hl : vs.length = ns.length)(h : k∉ns): DS.put (ns, vs) k w = (ns++[k], vs++[w]) := by
 unfold DS.put
 rw [AU h, AV hl h]
theorem oN {k : Str} : ∀{ns : List Str}, hJ ns k = true ↔ k∈ns
 |[] => by simp [hJ]
 |n::ns => by
  rw [hJ]
  split
  ·next e => simp [e]
  ·next e =>
   rw [oN, zao]
   constructor
   ·exact .inr
   ·rintro (h | h)
    ·exact absurd h.symm e
    ·exact h
theorem JS {k : Str}{ns : List Str}(h : k∉ns): hJ ns k = false := by
 cases e : hJ ns k with
 |false => rfl
 |true => exact absurd (oN.mp e) h
theorem wF {n : List Nat}{ls : List .bL} : S n∈ls.map S ↔ n∈ls := by
 constructor
 ·intro h
  obtain⟨x, hx, e⟩ := zah.mp h
  rw [<- C3 e]
  exact hx
 ·intro h
  exact zah.mpr ⟨n, h, rfl⟩
abbrev names (ps : List Pt): List .bL := ps.filterMap Pt.nm
theorem HA {p : Pt}{fo : FE}{τ τ1 : aE}(h : fo τ = some (p.obj, τ1)): gF [(ic, false), (dR, false), (dz, false), (cM, false), (cI, false), (eW, true), (dN, false)] fo τ = some (.bl p.isOut, τ1) := by
 unfold gF
 rw [h]
 cases p<;>rfl
theorem Mg {p : Pt}{fo : FE}{τ τ1 : aE}(h : fo τ = some (p.obj, τ1)): gF [(ic, false), (dR, true), (dz, false), (cM, false), (cI, false), (eW, false), (dN, false)] fo τ = some (.bl p.isIn, τ1) := by
 unfold gF
 rw [h]
 cases p<;>rfl
theorem Me {p : Pt}{fo : FE}{τ τ1 : aE}(h : fo τ = some (p.obj, τ1)): gF [(ic, false), (dR, false), (dz, true), (cM, false), (cI, false), (eW, false), (dN, false)] fo τ = some (.bl p.isCell, τ1) := by
 unfold gF
 rw [h]
 cases p<;>rfl
abbrev Rj : List T->Option T := cj 4 1 (me ic dR dz cM cI eW dN xF BP BQ BS BR)
noncomputable def Qy : FZ := (RO 1 (ny (dB (gF [(ic, false), (dR, false), (dz, false), (cM, false), (cI, false), (eW, true), (dN, false)] (ae 2)))) (LM (Ez 1 (dJ [dR, dz, cM, cI] "name" (ae 2)) CV uJ) (Bp 1 (dJ [dR, dz, cM, cI] "name" (ae 2)) (fC .b4))) uJ)
theorem wJ (t : T)(a : Addr)(x y : Option Sl): mx 1 a [s t, s (.ptr a), x, y] = true := Nat.beq_refl a
theorem Nz {p : Pt}(h : p.isOut = true): p.nm = none := by cases p<;>first | rfl | cases h
theorem KL {p : Pt}(h : p.isOut = false): ∃n, p.nm = some n := by cases p<;>first | exact⟨_, rfl⟩ | cases h
def HH : List Pt->Option Sl->Option Sl
 |[], x => x
 |p::ps, _ => HH ps (s p.obj)
theorem DZ (t : T)(a : Addr): ∀(ps qs : List Pt) (x : Option Sl), (names (qs++ps)).Nodup->(qs++ps).length≤900->kj 1 (ai 2) Qy .b1 a ((names qs).map S, (names qs).map fun _ => T.bl true) [s t, s (.ptr a), x, none] = some (((names (qs++ps)).map S, (names (qs++ps)).map fun _ => T.bl true), [s t, s (.ptr a), HH ps x, none])
 |[], qs, x, _, _ => by rw [zaA];rfl
 |p::ps, qs, x, hn, hl => by
  have e : qs++p::ps = (qs++[p])++ps := by simp
  have h2 := DZ t a ps (qs++[p]) (s p.obj) (by rw [<- e];exact hn) (by rw [<- e];exact hl)
  have hB : Qy a ((names qs).map S, (names qs).map fun _ => T.bl true) .bN = some (((names (qs++[p])).map S, (names (qs++[p])).map fun _ => T.bl true), .bN) := by
   unfold Qy RO
   have U := oX (eN (HA (p := p) (fo := ae 2) (τ := .bN) rfl) rfl)
   rw [U, zaa]
   dsimp only
   rw [if_pos (wJ t a _ _)]
   cases ho : p.isOut with
   |true =>
    rw [if_neg .f]
    unfold uJ names
    rw [za8, zbH (Nz ho)]
    simp
   |false =>
    rw [if_pos (show (!false) = true from rfl)]
    obtain⟨n, c⟩ := KL ho
    have d := qb c (fo := ae 2) (τ := .bN) rfl
    have en : names (qs++[p]) = names qs++[n] := by
     unfold names
     rw [za8, zaY c]
     rfl
    have i : S n∉(names qs).map S := by
     rw [wF]
     intro z
     rw [e] at hn
     unfold names at hn
     rw [za8] at hn
     have := (zaI.mp hn).1
     change (names (qs++[p])).Nodup at this
     rw [en, zaI] at this
     exact this.2.2 n z n .bh rfl
    unfold LM Ez
    rw [d, zaa]
    dsimp only
    rw [.ap (wJ t a _ _), if_neg (by rw [JS i];decide)]
    unfold uJ
    rw [zaa]
    unfold Bp
    rw [show fC .b4 .bN = some (.bl true, .bN) from rfl, zaa]
    dsimp only
    rw [.ap (wJ t a _ _), d, zaa]
    dsimp only
    rw [if_pos ⟨wJ t a _ _, bN (by
     rw [zaf]
     have h1 : (names qs).length≤qs.length := List.length_filterMap_le ..
     rw [zak] at hl
     omega)⟩, rT (by rw [zaf, zaf]) i, en]
    simp
  rw [zag, kj, show ai 2 p.obj [s t, s (.ptr a), x, none] = some .bN from rfl, zaa]
  rw [.ap (wJ t a _ _), hB, zaa, h2, <- e]
  rfl
def S2 : FS := (.G (au (qQ true) (ae 3) (ae 1)) fB)
def S4 : FS := fW (.aD 2) (ai 3) S2
theorem AY {ns : List .bL}{vs : List T}(t u : T): ∀(ws : List .bL) (x : Option Sl), (∀w∈ws, w∈ns)->∃y, cN (ai 3) S2 (ws.map tx) [s t, .cR, s u, x] = some (.nx [s t, .cR, s u, y])
 |[], x, _ => ⟨x, rfl⟩
 |w::ws, x, h => by
  obtain⟨y, h2⟩ := AY (ns := ns) (vs := vs) t u ws (s (tx w)) fun z hz => h z (.aT hz)
  refine⟨y, ?_⟩
  have hB : S2 [s t, .cR, s u, .l w] = some (.nx [s t, .cR, s u, .l w]) := fL (gg (aQ rfl rfl (by
   show some (T.bl (xor true (hJ (ns.map S) (S w)))) = _
   rw [oN.mpr (wF.mpr (h w zad))]
   rfl)))
  rw [zag, cW rfl hB, h2]
theorem AZ {ns : List .bL}{vs : List T}(t : T): ∀(ps : List Pt) (x j : Option Sl), (∀p∈ps, p.Ok)->(∀p∈ps, ∀w∈p.ws, w∈ns)->∃y I, cN (ai 2) S4 .b1 [s t, .cR, x, j] = some (.nx [s t, .cR, y, I])
 |[], x, j, _, _ => ⟨x, j, rfl⟩
 |p::ps, x, j, ho, h => by
  obtain⟨I, W⟩ := AY (ns := ns) (vs := vs) t p.obj p.ws j (h p zad)
  obtain⟨y, D, h2⟩ := AZ (ns := ns) (vs := vs) t ps (s p.obj) I (fun z hz => ho z (.aT hz)) fun z hz => h z (.aT hz)
  refine⟨y, D, ?_⟩
  have hf : aX (cv LW "wants" (ae 2) ar) [s t,.cR,s p.obj,j]=some (p.ws.map tx,[s t,.cR,s p.obj,j]):=by
   unfold aX
   rw [Ey (ho p zad) rfl]
   rfl
  rw [zag,cW rfl (show S4 _=_ from iz hf W),h2]
theorem Qz {ps:.ap}{r:.bj}(h:.d1):Rj [.lst .b1]=some .non:=by
 obtain⟨y,I,h2⟩:=AZ (ns:=names ps) (vs:=(names ps).map fun _=>T.bl true) (.al .b1) ps (HH ps none) none h.ok h.ws
 have hr:wj 1 (pK (CU 1 .dr (ai 2) Qy) (zEnd 1 (fW .dr (ai 2) S4))) [.G,none,none,none]=some (.nx [.G,s (.dct ((names ps).map S) ((names ps).map fun _=>T.bl true)),y,I]):=by
  refine G2 .c7 fun a=>?_
  have h1:=DZ (.al .b1) a ps [] none (by simpa using h.nd) (by have:=h.len;simp;omega)
  show pK _ _ a .gZ .gj=_
  unfold pK CU
  rw [show aX (ae 0) .gj=some (ps.map Pt.obj,.gj) from rfl,zaa]
  dsimp only
  rw [if_pos (wJ _ a _ _)]
  change (kj 1 (ai 2) Qy .b1 a ((names []).map S,(names []).map fun _=>T.bl true) .gj).bind _=_
  rw [h1,zaa]
  exact iz rfl h2
 exact GR rfl hr
theorem oM {f:Pt->Bool}{ft:FT}{ρ:aE}(hr:bE ρ=true)(h1:∀p,ft (s p.obj::ρ)=some (f p,s p.obj::ρ)):∀(l:.ap) (u:.aB) (acc:List T),acc.length+l.length≤sizeLine->(u=none\/∃t,u=s t) ->
  dM (ai 0) ft (ae 0) (l.map Pt.obj) (u::ρ) acc=some (acc++(l.filter f).map Pt.obj)
 |[],u,acc,_,_=>by simp [dM]
 |p::l,u,acc,hl,_=>by
  have i:.c6:=hl
  have hs:bE (s p.obj::ρ)=true:=by simpa [bE] using hr
  rw [zag,dM,show ai 0 p.obj (u::ρ)=some (s p.obj::ρ) from rfl,zaa,h1,zaa]
  cases hp:f p with
  |true =>
   rw [.eZ,show ae 0 (s p.obj::ρ)=some (p.obj,s p.obj::ρ) from rfl,Option.bind_some,if_pos ⟨hs,.e⟩,oM hr h1 l _ _ .cD (.inr .al),List.filter_cons_of_pos hp,List.map_cons,List.append_assoc]
   rfl
  |false =>
   rw [if_neg .h,if_pos hs]
   dsimp only
   rw [oM hr h1 l _ _ .e (.inr .al),.a9 (by simp [hp])]
abbrev Rh:List T->Option T:=cj 4 1 (fS ic dR dz cM cI eW dN)
theorem G9 {f:Pt->Bool}{ft:FT}{ps:.ap}{τ:aE}(h1:∀p,ft [s p.obj]=some (f p,[s p.obj]))(h:aX (ae 0) τ=some .gU)(hl:ps.length≤900):bq 1 [] .dr (ai 0) ft (ae 0) τ=some (.lst ((ps.filter f).map Pt.obj),τ):=
 bX h rfl rfl (oM (ρ:=[]) rfl h1 ps none [] .az .bM)
theorem Hv {f:FE}{τ:aE}{n:Nat}{m:Int}(h:f τ=some (bf n,τ))(hn:(n:Int)≤m):du (au zw f (fC (.af m))) τ=some (false,τ):=gg (aQ h rfl (by
 show some (.bc (m<(n:Int)))=_
 rw [decide_eq_false .e]))
theorem L3 {f:FE}{τ:aE}{n:Nat}(h:f τ=some (bf n,τ))(hn:1≤n):du (.i il f 0) τ=some (false,τ):=gg (aQ h rfl (by
 rw [gW,.g5]))
theorem rQ {α:Type}(f:α->T)(l:List α):cJ [.lst (l.map f)]=some (.af (l.length:Nat)):=by rw [rP,zaf]
theorem Qv {ps:.ap}{r:.bj}(h:.d1):Rh [.lst .b1]=some .non:=by
 have hl:=h.len
 have e1:∀τ:aE,aX (ae 0) τ=some .gU->ak cJ (.ac (.q (ae 0) (gF [(ic,false),(dR,true),(dz,false),(cM,false),(cI,false),(eW,false),(dN,false)] (ae 0)))) τ=some (.int .dg,τ):=fun τ Y=>aB _ (bJ (G9 (f:=Pt.isIn) (fun p=>eN (Mg rfl) rfl) Y .e)) (rQ _ _)
 have e2:∀τ:aE,aX (ae 0) τ=some .gU->ak cJ (.ac (.q (ae 0) (gF [(ic,false),(dR,false),(dz,true),(cM,false),(cI,false),(eW,false),(dN,false)] (ae 0)))) τ=some (.int .ei,τ):=fun τ Y=>aB _ (bJ (G9 (f:=Pt.isCell) (fun p=>eN (Me rfl) rfl) Y .e)) (rQ _ _)
 have e3:∀τ:aE,aX (ae 0) τ=some .gU->ak cJ (.ac (.q (ae 0) (gF [(ic,false),(dR,false),(dz,false),(cM,false),(cI,false),(eW,true),(dN,false)] (ae 0)))) τ=some (.int .g3,τ):=fun τ Y=>aB _ (bJ (G9 (f:=Pt.isOut) (fun p=>eN (HA rfl) rfl) Y .e)) (rQ _ _)
 refine GR (τ:=[.G,.e .dg,.e .ei,.e .g3]) rfl ?_
 show fS ic dR dz cM cI eW dN [.G,none,none,none]=_
 unfold fS
 rw [aS (cF (τ2:=[.G,.e .dg,none,none]) (e1 _ rfl) rfl),aS (cF (τ2:=[.G,.e .dg,.e .ei,none]) (e2 _ rfl) rfl),
  aS (cF (τ2:=[.G,.e .dg,.e .ei,.e .g3]) (e3 _ rfl) rfl),
  aS (fL (qJ (Hv (.am (rQ _ _)) .e) (qJ (Hv rfl (by have:=h.cells;omega)) (qJ (Hv rfl (by have:=h.ins;omega)) (Hv rfl (by have:=h.outs;omega))))))]
 exact fL (qJ (L3 rfl h.ins.1) (L3 rfl h.outs.1))
section
variable {α:Type}{φ:α->T}{E:α->aE}{f:α->Bool}{P:aE->Prop}{fg:FG}{ft:FT}
theorem m6 {g:α->T}{fe:FE}(M:∀τ x,P τ->fg (φ x) τ=some (E x))(j:∀x,P (E x))(hs:∀x,bE (E x)=true):∀(l:List α) (τ:aE) (acc:List T),.gL->(∀x∈l,f x=true->fe (E x)=some (g x,E x))->P τ->acc.length+l.length≤sizeLine->dM fg ft fe (l.map φ) τ acc=some (acc++(l.filter f).map g)
 |[],τ,acc,_,_,_,_=>by simp [dM]
 |x::l,τ,acc,Y,he,hp,hl=>by
  have i:.c6:=hl
  have c:=fun z hz=>Y z (zae x hz)
  have d:=fun z hz=>he z (zae x hz)
  rw [zag,dM,M τ x hp,zaa,Y x zad,zaa]
  cases h:f x with
  |true =>
   rw [.eZ,he x zad h,zaa,.ap ⟨hs x,.e⟩,m6 M j hs l _ _ c d (j x) .a5,zbb h,zag,zaJ]
   rfl
  |false =>
   rw [if_neg .h,.ap (hs x)]
   dsimp only
   rw [m6 M j hs l _ _ c d (j x) .e,.a9 (by simp [h])]
theorem nV {g:α->O}{fe:uQ}(M:∀τ x,P τ->fg (φ x) τ=some (E x))(j:∀x,P (E x))(hs:∀x,bE (E x)=true):∀(l:List α) (τ:aE) (acc:List O),.gL->(∀x∈l,f x=true->fe (E x)=some (g x,E x))->P τ->acc.length+l.length≤sizeLine->ie fg ft fe (l.map φ) τ acc=some (acc++(l.filter f).map g)
 |[],τ,acc,_,_,_,_=>by simp [ie]
 |x::l,τ,acc,Y,he,hp,hl=>by
  have i:.c6:=hl
  have c:=fun z hz=>Y z (zae x hz)
  have d:=fun z hz=>he z (zae x hz)
  rw [zag,ie,M τ x hp,zaa,Y x zad,zaa]
  cases h:f x with
  |true =>
   rw [.eZ,he x zad h,zaa,.ap ⟨hs x,.e⟩,nV M j hs l _ _ c d (j x) .a5,zbb h,zag,zaJ]
   rfl
  |false =>
   rw [if_neg .h,.ap (hs x)]
   dsimp only
   rw [nV M j hs l _ _ c d (j x) .e,.a9 (by simp [h])]
theorem iX {k:α->List Nat}{g:α->T}{fk fv:FE}(M:∀τ x,P τ->fg (φ x) τ=some (E x))(j:∀x,P (E x))(hs:∀x,bE (E x)=true):∀(l:List α) (τ:aE) (ns:.R) (ts:List T),.gL->(∀x∈l,f x=true->fk (E x)=some (tx (k x),E x))->(∀x∈l,f x=true->fv (E x)=some (g x,E x))->P τ->ts.length=ns.length->ns.length+l.length≤900->(ns++(l.filter f).map k).Nodup ->
  fU fg ft fk fv (l.map φ) τ (ns.map S,ts)=some ((ns++(l.filter f).map k).map S,ts++(l.filter f).map g)
 |[],τ,ns,ts,_,_,_,_,_,_,_=>by simp [fU]
 |x::l,τ,ns,ts,Y,hk,N,hp,hn,hl,nd=>by
  rw [zaj] at hl
  have c:=fun z hz=>Y z (zae x hz)
  have n:=fun z hz=>hk z (zae x hz)
  have d:=fun z hz=>N z (zae x hz)
  rw [zag,fU,M τ x hp,zaa,Y x zad,zaa]
  cases h:f x with
  |true =>
   rw [zbb h,zag] at nd ⊢
   have i:S (k x)∉ns.map S:=by
    rw [wF]
    intro z
    exact (zaI.mp nd).2.2 _ z _ zad rfl
   rw [.eZ,hk x zad h,zaa]
   dsimp only
   rw [N x zad h,zaa,if_pos ⟨hs x,bN .fc⟩,rT (by rw [zaf];exact hn) i]
   have:=iX (k:=k) (g:=g) (fk:=fk) (fv:=fv) M j hs l (E x) (ns++[k x]) (ts++[g x]) c n d (j x) (by rw [zak,zak,hn];rfl) .a5 (by rw [zaJ];exact nd)
   rw [zay] at this
   rw [show ([S (k x)]:List Str)=[k x].map S from rfl,this]
   simp
  |false =>
   rw [List.filter_cons_of_neg (by simp [h])] at nd ⊢
   rw [if_neg .h,.ap (hs x)]
   exact iX M j hs l _ ns ts c n d (j x) hn .e nd
end
theorem Ep:∀ls:List .bL,qu .e8=some .bO
 |[]=>rfl
 |l::ls=>by
  show (zy (tx l)).bind _=_
  rw [show zy (tx l)=some (.str (S l)) from rfl,zaa,Ep ls]
  rfl
theorem Ea:∀ls:List .bL,(∀l∈ls,pM l)->PyData.canLayAll0 .bO=true/\PyData.depthAll .bO≤0
 |[],_=>⟨rfl,zap _⟩
 |l::ls,h=>by
  obtain⟨h1,h2⟩:=Ea ls fun x hx=>h x (.aT hx)
  refine⟨?_,?_⟩
  ·simp only [List.map_cons,PyData.canLayAll0,h1,Bool.and_true,PyData.canLay0]
   exact TL (h l zad)
  ·simp only [List.map_cons,PyData.depthAll,PyData.depth]
   exact Nat.max_le.mpr ⟨zap _,h2⟩
theorem MA (n:.D)(ls:.R):(ls.map fun l=>PyData.str (S l)).any (fun y=>PyData.eqv y (.str (S n)))=decide (n∈ls):=by
 rw [List.any_map,Bool.eq_iff_iff,List.any_eq_true,decide_eq_true_eq]
 constructor
 ·rintro ⟨l,hl,e⟩
  have:(S l == S n)=true:=by simpa [PyData.eqv] using e
  rw [beq_iff_eq,Mw] at this
  rwa [<- this]
 ·intro h
  refine⟨n,h,?_⟩
  simp [PyData.eqv]
theorem Du {neg:Bool}{n:.D}{ls:.R}(hn:pM n)(h:∀l∈ls,pM l):J8 neg (tx n) (cn ls)=some (.bl (if neg then !decide (n∈ls) else decide (n∈ls))):=by
 obtain⟨h1,h2⟩:=Ea ls h
 unfold J8
 rw [show zy (tx n)=some (.str (S n)) from rfl,zaa,show zy (cn ls)=(qu .e8).map PyData.list from rfl,Ep,Option.map_some,zaa]
 show (some .bO).bind _=_
 have hs:SeqAt.shaped (.list .bO)=true:=by
  unfold SeqAt.shaped
  have g1:(PyData.list .bO).canLay0=true:=by simp only [PyData.canLay0,h1]
  have g2:(PyData.list .bO).depth≤64:=by
   simp only [PyData.depth]
   exact zaG (Nat.add_le_add_right h2 1) (by decide:0+1≤64)
  rw [g1,decide_eq_true g2]
  rfl
 rw [zaa,.ap ⟨ur hn,hs⟩,MA]
theorem so (c:Nat->Nat->Bool):∀k,argBest c k≤k
 |0=>zap _
 |k+1=>by
  rw [argBest.eq_2]
  split
  ·exact zap _
  ·exact Nat.le_succ_of_le (so c k)
theorem Nl {ls:.R}(h:ls≠[]):∃m∈ls,sN [cn ls]=some (tx m):=by
 have hl:0<ls.length:=List.length_pos_iff.mpr h
 have e:sN [cn ls]=some (.str (HR .hw)):=by
  show (strsOf .e8).bind _=_
  rw [pF,zaa,.ap (by rw [zaf];exact hl)]
 have hi:argBest (QE .hw) ((ls.map S).length-1)<(ls.map S).length:=by
  have:=so (QE .hw) ((ls.map S).length-1)
  rw [zaf] at this ⊢
  omega
 have hm:HR .hw∈ls.map S:=by
  unfold HR
  exact getD_mem hi
 obtain⟨m,h1,h2⟩:=zah.mp hm
 exact⟨m,h1,by rw [e,<- h2]⟩
theorem sub_len {α:Type}:∀{a b:List α},a.Nodup->(∀x∈a,x∈b)->a.length≤b.length
 |[],_,_,_=>za4 _
 |x::a,b,hn,h=>by
  obtain⟨s,t,rfl⟩:=List.append_of_mem (h x zad)
  have f:=za0.mp hn
  have:=sub_len (b:=s++t) f.2 fun z hz=>by
   have c:=h z (.aT hz)
   rcases zaz.mp c with q | q
   ·exact zaH _ q
   ·rcases zao.mp q with q | q
    ·subst q;exact absurd hz f.1
    ·exact zaq _ q
  rw [zak] at this
  rw [zaj,zak,zaj]
  omega
theorem oP {α:Type}(l:List α):l.filter (fun _=>true)=l:=List.filter_eq_self.mpr fun _ _=>rfl
noncomputable def Pt.nam:Pt->List Nat
 | .inp n=>n
 | .cell n _=>n
 | .gain n _ _=>n
 | .sum n _=>n
 | .out _=>[]
theorem mw {p:Pt}(h:p.inner=true):p.nm=some p.nam:=by cases p<;>first | rfl | cases h
theorem wx {p:Pt}(h:p.inner=true)(ho:p.Ok):pM p.nam:=by
 cases p with
 |gain n q w=>exact ho.1.asc
 |sum n ts=>exact ho.1.asc
 |_=>cases h
abbrev bZ (ps:.ap):List Pt:=ps.filter Pt.inner
abbrev rN (ps:.ap):List .bL:=(bZ ps).map Pt.nam
theorem sW:∀ps:List Pt,(bZ ps).filterMap Pt.nm=rN ps
 |[]=>rfl
 |p::ps=>by
  unfold rN bZ
  cases h:p.inner with
  |true =>
   rw [zbb h,zaY (mw h),zag]
   congr 1
   exact sW ps
  |false =>
   rw [List.filter_cons_of_neg (by simp [h])]
   exact sW ps
theorem pZ {ps:.ap}{r:.bj}(h:.d1):(rN ps).Nodup:=by
 rw [<- sW]
 exact List.Sublist.nodup ((List.filter_sublist (l:=ps) (p:=Pt.inner)).filterMap Pt.nm) h.nd
abbrev D1 (ps:.ap):T:=.dct ((rN ps).map S) ((bZ ps).map Pt.obj)
def Wp (ps:.ap)(p:Pt):List .bL:=p.ws.filter fun w=>decide (w∈rN ps)
abbrev D2 (ps:.ap):T:=.dct ((rN ps).map S) ((bZ ps).map fun p=>cn (Wp ps p))
theorem qh {f:Pt->List Nat}{g:Pt->T}:∀l:List Pt,gw ((l.map f).map S) (l.map g)=l.map fun p=>.tup [tx (f p),g p]
 |[]=>rfl
 |p::l=>by
  rw [zag,zag,zag,zag,gw,qh l]
theorem P0 (p:Pt):dB .ch [s p.obj]=some (p.inner,[s p.obj]):=by
 refine eN (aB [p.obj,.tup [.ptr cM,.ptr cI]] (ck rfl (ko .bv)) (t:=.bl p.inner) ?_) rfl
 cases p<;>rfl
theorem Sr {ps:.ap}{r:.bj}(h:.d1):jE 1 [] .dr (ai 0) (dB .ch) (.ag 0) (ae 0) .eM=some (D1 ps,.eM):=by
 have e:=iX (φ:=Pt.obj) (E:=fun p=>[s p.obj]) (f:=Pt.inner) (P:=fun τ=>∃u,τ=[u]) (fg:=ai 0) (k:=Pt.nam) (g:=Pt.obj) (ft:=dB .ch) (fk:=dJ [dR,dz,cM,cI] "name" (ae 0)) (fv:=ae 0)
  (fun τ p ⟨u,e⟩=>by rw [e];rfl) (fun p=>⟨_,rfl⟩) (fun p=>rfl) ps [none] [] [] (fun p _=>P0 p) (fun p _ hp=>qb (mw hp) rfl) (fun p _ _=>rfl) .al rfl (by have:=h.len;simp;omega) (by rw [List.nil_append];exact pZ h)
 unfold jE
 rw [show aX (ae 0) .eM=some (ps.map Pt.obj,.eM) from rfl,zaa]
 show (if bE [none]=true then (fU _ _ _ _ .b1 [none] .gZ).bind _ else none)=_
 rw [if_pos (show bE [none]=true from rfl),show (.gZ:DS)=(([]:List .bL).map S,[]) from rfl,e]
 rfl
theorem Ss {ps:.ap}{r:.bj}(h:.d1):jE 2 [1] (jr (ae 1)) .bU aI (ae 0) (bq 1 [2] (.aD 1) (ai 0) (du .cT) (ae 0)) .e6=some (D2 ps,.e6):=by
 have N:∀p∈bZ ps,bq 1 [2] (.aD 1) (ai 0) (du .cT) (ae 0) [s (tx p.nam),s p.obj,.cx]=some (cn (Wp ps p),[s (tx p.nam),s p.obj,.cx]):=fun p hp=>by
  have J:=(zal.mp hp).1
  refine bX (ts:=p.ws.map tx) ?_ rfl rfl ?_
  ·unfold aX
   rw [Ey (h.ok p J) rfl]
   rfl
  ·have hw:p.ws.length≤5:=by
    have:=h.ok p J
    cases p with
    |sum n ts=>have:=this.2.1;simp only [Pt.ws,List.length_map];omega
    |_=>exact zai rfl
   have:=m6 (φ:=tx) (E:=fun w=>[s (tx w),s (D1 ps)]) (f:=fun w=>decide (w∈rN ps)) (P:=fun τ=>∃u,τ=[u,.cx]) (fg:=ai 0) (g:=tx) (ft:=du .cT) (fe:=ae 0)
    (fun τ w ⟨u,e⟩=>by rw [e];rfl) (fun w=>⟨_,rfl⟩) (fun w=>rfl) p.ws [none,.cx] [] (fun w _=>gg (aQ rfl rfl (by
     show some (T.bl (xor false (hJ ((rN ps).map S) (S w))))=_
     rw [Bool.false_xor]
     congr 2
     rw [Bool.eq_iff_iff,oN,decide_eq_true_eq,wF]))) (fun w _ _=>rfl) .al .az
   exact this
 have e:=iX (φ:=fun p:Pt=>T.tup [tx p.nam,p.obj]) (E:=fun p=>[s (tx p.nam),s p.obj,s (D1 ps)]) (f:=fun _=>true) (P:=fun τ=>∃u v,τ=[u,v,.cx]) (fg:=bS (.a 0 1)) (k:=Pt.nam) (g:=fun p=>cn (Wp ps p)) (ft:=aI) (fk:=ae 0) (fv:=bq 1 [2] (.aD 1) (ai 0) (du .cT) (ae 0))
  (fun τ p ⟨u,v,e⟩=>by rw [e];rfl) (fun p=>⟨_,_,rfl⟩) (fun p=>rfl) (bZ ps) [none,none,.cx] [] [] (fun p _=>rfl) (fun p _ _=>rfl) (fun p hp _=>N p hp) ⟨_,_,rfl⟩ rfl (by have:=h.len;have:(bZ ps).length≤ps.length:=List.length_filter_le ..;simp;omega) (by rw [List.nil_append,oP];exact pZ h)
 unfold jE
 have hi:jr (ae 1) .e6=some ((bZ ps).map fun p=>T.tup [tx p.nam,p.obj],.e6):=by
  show some (gw ((rN ps).map S) ((bZ ps).map Pt.obj),_)=_
  rw [qh]
 rw [hi,zaa]
 show (if bE [none,none,.cx]=true then (fU _ _ _ _ ((bZ ps).map fun p=>T.tup [tx p.nam,p.obj]) [none,none,.cx] .gZ).bind _ else none)=_
 rw [if_pos (show bE [none,none,.cx]=true from rfl),show (.gZ:DS)=(([]:List .bL).map S,[]) from rfl,e,oP]
 rfl
abbrev LZ:List T->Option O:=JW 2 2 iL
noncomputable def J6 (ps:.ap)(c:.R)(p:Pt):Bool:=!decide (p.nam∈c)&&(Wp ps p).all fun w=>decide (w∈c)
def free (ps:.ap)(c:.R):List .bL:=((bZ ps).filter (J6 ps c)).map Pt.nam
theorem EK (f:List Nat->Bool):∀l:List .bL,kA [.lst (l.map fun w=>T.bl (f w))]=some (.bl (l.all f)):=fun l=>by
 have e:∀l:List .bL,boolsOf (l.map fun w=>T.bl (f w))=some (l.map f):=by
  intro l
  induction l with
  |nil=>rfl
  |cons a l A =>
   show (boolsOf (l.map fun w=>T.bl (f w))).bind _=_
   rw [A]
   rfl
 show (boolsOf _).bind _=_
 rw [e l]
 show some (T.bl ((l.map f).all id))=_
 rw [zch]
 rfl
theorem Ou {ps:.ap}{r:.bj}(h:.d1){p:Pt}(hp:p∈ps):∀w∈p.ws,pM w:=by
 intro w L
 have ho:=h.ok p hp
 cases p with
 |inp n=>cases L
 |cell n v=>rw [zac.mp L];exact ho.2.asc
 |gain n q v=>rw [zac.mp L];exact ho.2.1.asc
 |out v=>rw [zac.mp L];exact uN.asc ho
 |sum n ts =>
  obtain⟨t,Y,rfl⟩:=zah.mp L
  exact (ho.2.2 t Y).asc
theorem Px {ps:.ap}{r:.bj}(h:.d1){c:.R}(ho:∀w∈c,pM w):LZ [D2 ps,cn c]=some (.al .gf):=by
 have N:∀p∈bZ ps,kE (du (.c pY 0 2)) (dB .bm) .bA=some (J6 ps c p,.bA):=fun p hp=>by
  obtain⟨j,F⟩:=zal.mp hp
  have a1:=wx F (h.ok p j)
  have c1:du (.c pY 0 2) .bA=some (!decide (p.nam∈c),.bA):=gg (.q (Du (neg:=true) a1 ho))
  have c2:dB .bm .bA=some ((Wp ps p).all fun w=>decide (w∈c),.bA):=by
   refine eN (aB _ (bJ (bX (ts:=(Wp ps p).map tx) (us:=(Wp ps p).map fun w=>T.bl (decide (w∈c))) rfl rfl rfl ?_)) (EK (fun w=>decide (w∈c)) (Wp ps p))) rfl
   have L:(Wp ps p).length≤5:=by
    have e1:(Wp ps p).length≤p.ws.length:=List.length_filter_le ..
    have:=h.ok p j
    cases p with
    |sum n ts=>have:=this.2.1;simp only [Pt.ws,List.length_map] at e1;omega
    |_=>exact zaG e1 .c7
   exact bP (φ:=tx) (g:=fun w=>T.bl (decide (w∈c))) (ρ:=[s (cn c)]) rfl (Wp ps p) none [] (fun w L=>aQ rfl rfl (Du (neg:=false) (Ou h j w (List.mem_filter.mp L).1) ho)) .az
  unfold J6
  cases U : !decide (p.nam∈c) with
  |true =>
   rw [U] at c1
   rw [C6 c1,c2,zbK]
  |false =>
   rw [U] at c1
   rw [LX c1,Bool.false_and]
 have e:=nV (φ:=fun p:Pt=>T.tup [tx p.nam,cn (Wp ps p)]) (E:=fun p=>[s (tx p.nam),s (cn (Wp ps p)),s (cn c)]) (f:=J6 ps c) (P:=fun τ=>∃u v,τ=[u,v,.aO c]) (fg:=bS (.a 0 1)) (g:=fun p=>O.val (tx p.nam)) (ft:=kE (du (.c pY 0 2)) (dB .bm)) (fe:=uW (ae 0))
  (fun τ p ⟨u,v,e⟩=>by rw [e];rfl) (fun p=>⟨_,_,rfl⟩) (fun p=>rfl) (bZ ps) [none,none,.aO c] [] N (fun p _ _=>rfl) ⟨_,_,rfl⟩ (by have:=h.len;have:(bZ ps).length≤ps.length:=List.length_filter_le ..;simpa using aR .e)
 have hi:jr (ae 0) [.fy,.aO c]=some ((bZ ps).map fun p=>T.tup [tx p.nam,cn (Wp ps p)],[.fy,.aO c]):=by
  show some (gw ((rN ps).map S) ((bZ ps).map fun p=>cn (Wp ps p)),_)=_
  rw [qh]
 show (if ([D2 ps,cn c]:List T).length=2 then iL [.fy,.aO c] else none)=_
 rw [if_pos (show ([D2 ps,cn c]:List T).length=2 from rfl)]
 unfold iL Dm
 rw [show nZ 2 [1] (jr (ae 0)) .bU (kE (du (.c pY 0 2)) (dB .bm)) (uW (ae 0)) [.fy,.aO c]=some (.lst (((bZ ps).filter (J6 ps c)).map fun p=>O.val (tx p.nam)),[.fy,.aO c]) by
  unfold nZ
  rw [hi,zaa]
  show (if bE [none,none,.aO c]=true then (ie _ _ _ ((bZ ps).map fun p=>T.tup [tx p.nam,cn (Wp ps p)]) [none,none,.aO c] []).bind _ else none)=_
  rw [if_pos (show bE [none,none,.aO c]=true from rfl),e]
  rfl]
 unfold free
 rw [zaC]
 rfl
abbrev uZ (ps:.ap)(c:.R)(x:.aB):aE:=[.G,.cx,.fy,.o (c.map tx),x]
def Ry:FE:=pX 3 (mi LZ (.p 2 3))
theorem DE {ps:.ap}{r:.bj}(h:.d1){c:.R}(ho:∀w∈c,pM w)(x:.aB)(hx:x=none\/∃t,x=s t):Ry (uZ ps c x)=some (cn (free ps c),uZ ps c x):=by
 have e:mi LZ (.p 2 3) [.G,.cx,.fy,.aO c,x]=some (.lst .gf,[.G,.cx,.fy,.aO c,x]):=by
  unfold mi
  rw [ck (f:=ae 2) (g:=ae 3) (t:=D2 ps) (u:=cn c) rfl rfl,zaa,Px h ho]
  rfl
 unfold Ry pX
 show ((mi LZ (.p 2 3) ((hide (uZ ps c x)).set 3 (fP (.al (c.map tx))))).bind _)=_
 rw [show (hide (uZ ps c x)).set 3 (fP (.al (c.map tx)))=[.G,.cx,.fy,.aO c,x] by rcases hx with rfl | ⟨t,rfl⟩<;>rfl,e,zaa]
 dsimp only
 rw [show .gf=((free ps c).map S).map fun k=>O.val (.str k) by rw [zaC];rfl,wY,zaa,zaC]
 rfl
def Rx:FS:=(aH (eQ 3 (.l sN 4)) (bF 4 Ry))
theorem He {ps:.ap}{c:.R}{m:.D}(h:m∈free ps c):m∈rN ps/\m∉c:=by
 obtain⟨p,hp,rfl⟩:=zah.mp h
 obtain⟨h1,h2⟩:=zal.mp hp
 refine⟨zah.mpr ⟨p,h1,rfl⟩,fun z=>?_⟩
 unfold J6 at h2
 rw [decide_eq_true z] at h2
 cases h2
noncomputable def Rd (ps:.ap):List .bL->List .bL->Prop
 |_,[]=>True
 |d,m::r=>(∃p∈bZ ps,p.nam=m/\∀w∈Wp ps p,w∈d)/\Rd ps (d++[m]) r
theorem Rd.snoc {ps:.ap}{m:.D}:∀{r d:.R},Rd ps d r->(∃p∈bZ ps,p.nam=m/\∀w∈Wp ps p,w∈d++r)->Rd ps d (r++[m])
 |[],d,_,h=>⟨by simpa using h,trivial⟩
 |x::r,d,h,g=>⟨h.1,Rd.snoc h.2 (by simpa using g)⟩
theorem J7 {ps:.ap}{c:.R}{m:.D}(h:m∈free ps c):∃p∈bZ ps,p.nam=m/\∀w∈Wp ps p,w∈c:=by
 obtain⟨p,hp,e⟩:=zah.mp h
 obtain⟨h1,h2⟩:=zal.mp hp
 unfold J6 at h2
 rw [zbP,zbT] at h2
 exact⟨p,h1,e,fun w L=>of_decide_eq_true (h2.2 w L)⟩
theorem n0 {α c:Type}{f:α->c}{x y:α}:∀{l:List α},(l.map f).Nodup->x∈l->y∈l->f x=f y->x=y
 |[],_,h,_,_=>by cases h
 |a::l,hn,hx,R,e=>by
  obtain⟨h1,h2⟩:=za0.mp hn
  rcases zao.mp hx with k | k<;>rcases zao.mp R with g | g
  ·rw [k,g]
  ·rw [k] at e
   exact absurd (e ▸ zah.mpr ⟨y,g,rfl⟩) h1
  ·rw [g] at e
   exact absurd (e ▸ zah.mpr ⟨x,k,rfl⟩) h1
  ·exact n0 h2 k g e
theorem GG {p:Pt}:∀{l:.ap},(l.map Pt.nam).Nodup->p∈l->GQ ((l.map Pt.nam).map S) (l.map Pt.obj) (S p.nam)=some p.obj
 |[],_,h=>by cases h
 |a::l,hn,h=>by
  obtain⟨h1,h2⟩:=za0.mp hn
  rw [zag,zag,zag,GQ]
  rcases zao.mp h with rfl | h
  ·rw [if_pos rfl]
  ·rw [if_neg (fun e=>h1 (by rw [C3 e];exact zah.mpr ⟨p,h,rfl⟩)),GG h2 h]
theorem pick {ps:.ap}:∀c:List .bL,(∀w∈c,w∈rN ps)->∃Q:List Pt,(∀p∈Q,p∈bZ ps)/\Q.map Pt.nam=c
 |[],_=>⟨[],(fun _ h=>by cases h),rfl⟩
 |w::c,h=>by
  obtain⟨Q,h1,h2⟩:=pick c fun x hx=>h x (.aT hx)
  obtain⟨p,hp,e⟩:=zah.mp (h w zad)
  exact⟨p::Q,zab.mpr ⟨hp,h1⟩,by rw [zag,e,h2]⟩
structure JJ (ps Q:.ap):Prop where
 sub:∀p∈Q,p∈bZ ps
 all:∀p∈bZ ps,p∈Q
 nd:(Q.map Pt.nam).Nodup
 rd:Rd ps [] (Q.map Pt.nam)
theorem DA {ps:.ap}{r:.bj}(h:.d1){w:.D}(L:w∈rN ps):pM w:=by
 obtain⟨p,hp,rfl⟩:=zah.mp L
 obtain⟨h1,h2⟩:=zal.mp hp
 exact wx h2 (h.ok p h1)
theorem Ab {ps:.ap}{r:.bj}(h:.d1):∀(n:Nat) (c:.R),c.Nodup->(∀w∈c,w∈rN ps)->Rd ps [] c->(rN ps).length<n+c.length->∃d,d.Nodup/\(∀w∈d,w∈rN ps)/\free ps d=[]/\Rd ps [] d/\dk (dB (ae 4)) Rx n (uZ ps c .dM)=some (.nx (uZ ps d (s (cn []))))
 |0,c,hn,hs,hr,hf=>by
  have:=sub_len hn hs
  omega
 |n+1,c,hn,hs,hr,hf=>by
  have hl:=sub_len hn hs
  have J:(rN ps).length≤24:=by
   have:=h.len
   have:(bZ ps).length≤ps.length:=List.length_filter_le ..
   rw [zaf]
   omega
  by_cases he:free ps c=[]
  ·refine⟨c,hn,hs,he,hr,?_⟩
   rw [he]
   exact uG (eN rfl rfl) (Nat.succ_pos n)
  ·obtain⟨m,hm,e1⟩:=Nl he
   obtain⟨g,P⟩:=He hm
   obtain⟨d,g1,g2,g3,Y,C⟩:=Ab h n (c++[m]) (zaI.mpr ⟨hn,List.pairwise_singleton ..,fun a ha b hb e=>by
    rw [zac.mp hb] at e
    exact P (e ▸ ha)⟩) (fun w L=>by
    rcases zaz.mp L with L | L
    ·exact hs w L
    ·rw [List.mem_singleton.mp L];exact g) (Rd.snoc hr (by simpa using J7 hm)) (by rw [List.length_append,List.length_singleton];omega)
   refine⟨d,g1,g2,g3,Y,?_⟩
   have hB:Rx (uZ ps c .dM)=some (.nx (uZ ps (c++[m]) (s (cn (free ps (c++[m])))))):=by
    unfold Rx
    have a1:=ma (i:=3) (f:=ak sN (bI 4)) (τ:=uZ ps c .dM) (ts:=c.map tx) (t:=tx m) rfl (.am e1) (bN .fc)
    rw [show (uZ ps c .dM).set 3 (.s (c.map tx++[tx m]))=uZ ps (c++[m]) .dM by unfold uZ;rw [List.map_append];rfl] at a1
    rw [aS a1]
    exact cF (DE h (fun w L=>by
     rcases zaz.mp L with L | L
     ·exact DA h (hs w L)
     ·rw [zac.mp L];exact DA h g) _ (.inr .al)) rfl
   have U:dB (ae 4) (uZ ps c .dM)=some (true,uZ ps c .dM):=by
    refine eN rfl ?_
    show some (!((free ps c).map tx).isEmpty)=_
    cases hq:free ps c with
    |nil=>exact absurd hq he
    |cons a b=>rfl
   rw [uH U hB,C]
theorem BB {ps:.ap}{r:.bj}(h:.d1){c:.R}(hf:free ps c=[]):∀(n:Nat) (p:Pt),p∈bZ ps->r p.nam=n->p.nam∈c:=by
 intro n
 induction n using Nat.strongRecOn with
 |ind n A =>
  intro p hp hr
  obtain⟨h1,h2⟩:=zal.mp hp
  by_cases hz:p.nam∈c
  ·exact hz
  ·exfalso
   have L:∀w∈Wp ps p,w∈c:=fun w L=>by
    obtain⟨S,K⟩:=zal.mp L
    obtain⟨q,hq,rfl⟩:=zah.mp (of_decide_eq_true K)
    have:=h.rk p h1 h2 p.nam (mw h2) q.nam S
    exact A (r q.nam) .e q hq rfl
   have v:J6 ps c p=true:=by
    unfold J6
    rw [decide_eq_false hz,Bool.not_false,zbK,zbT]
    exact fun w d=>decide_eq_true (L w d)
   have:p.nam∈free ps c:=zah.mpr ⟨p,zal.mpr ⟨hp,v⟩,rfl⟩
   rw [hf] at this
   cases this
abbrev Rb:List T->Option T:=cj 5 1 (ky 100 ic dR dz cM cI eW dN LZ xF BP BQ BS BR)
theorem PY {ps:.ap}{r:.bj}(h:.d1):∃Q,JJ ps Q/\Rb [.lst .b1]=some (.al .gm):=by
 have J:(rN ps).length≤24:=by
  have:=h.len
  have:(bZ ps).length≤ps.length:=List.length_filter_le ..
  rw [zaf]
  omega
 obtain⟨ord,g1,g2,g3,Y,C⟩:=Ab h 100 [] zbD (fun w L=>by cases L) trivial (by rw [zbw];omega)
 have hp:∀w∈rN ps,w∈ord:=fun w L=>by
  obtain⟨p,hp,rfl⟩:=zah.mp L
  exact BB h g3 _ p hp rfl
 have hlen:=sub_len (pZ h) hp
 have c:=sub_len g1 g2
 obtain⟨Q,q1,q2⟩:=pick ord g2
 subst q2
 refine⟨Q,⟨q1,fun p h1=>?_,g1,Y⟩,cu rfl ?_⟩
 ·obtain⟨q,hq,e⟩:=zah.mp (hp p.nam (zah.mpr ⟨p,h1,rfl⟩))
  rw [<- n0 (pZ h) (q1 q hq) h1 e]
  exact hq
 generalize ho:Q.map Pt.nam=ord at *
 show ky 100 ic dR dz cM cI eW dN LZ xF BP BQ BS BR .eM=_
 have e:ky 100 ic dR dz cM cI eW dN LZ xF BP BQ BS BR=(aH (bF 1 (jE 1 [] .dr (ai 0) (dB .ch) (.ag 0) (ae 0)))
  (aH (bF 2 (jE 2 [1] (jr (ae 1)) .bU aI (ae 0) (bq 1 [2] (.aD 1) (ai 0) (du .cT) (ae 0))))
  (aH (bK 3 ar) (aH (bF 4 Ry) (aH (dk (dB (ae 4)) Rx 100)
  (aH (.G .gN fB)
  (bx (bq 1 [1] (aX (ae 3)) (ai 0) aI (.c iY 1 0))))))))):=rfl
 rw [e,aS (cF (τ2:=.e6) (Sr h) rfl),aS (cF (τ2:=[.G,.cx,.fy,none,none]) (Ss h) rfl),
  aS (show bK 3 ar [.G,.cx,.fy,none,none]=some (.nx (uZ ps [] none)) from rfl),aS (cF (τ2:=uZ ps [] (s (cn (free ps [])))) (DE h (fun w L=>by cases L) none .bM) rfl),aS C]
 have N:sT 3 (.l cJ 3) (uZ ps ord (s (cn [])))=some (.int (ord.length:Nat),uZ ps ord (s (cn []))):=by
  unfold sT
  show ((ak cJ (bI 3) [.G,.cx,.fy,.aO ord,s (cn [])]).bind _)=_
  rw [aB [cn ord] .aV (lG (ls:=ord)),zaa]
  rfl
 have U:du .gN (uZ ps ord (s (cn [])))=some (false,uZ ps ord (s (cn []))):=gg (aQ N (aB [D1 ps] .aV (show wb [D1 ps]=some (.int ((rN ps).map S).length) from rfl)) (by
  show some (.bc ((ord.length:Int)<(((rN ps).map S).length:Nat)))=_
  rw [zaf,.g5]))
 rw [aS (fL U)]
 refine cO (τ':=[.G,.cx,.fy,.aO ord,s (cn [])]) ?_
 unfold bq
 rw [show aX (ae 3) (uZ ps ord (s (cn [])))=some (ord.map tx,[.G,.cx,.fy,.aO ord,s (cn [])]) from rfl,zaa]
 show (if bE [none,.cx]=true then (dM _ _ _ (ord.map tx) [none,.cx] []).bind _ else none)=_
 rw [if_pos (show bE [none,.cx]=true from rfl),show ord.map tx=Q.map fun p=>tx p.nam by rw [<- ho,List.map_map];rfl,bP (φ:=fun p:Pt=>tx p.nam) (g:=Pt.obj) (ρ:=[s (D1 ps)]) rfl Q none [] (fun p hq=>aQ rfl rfl (GG (pZ h) (q1 p hq))) (by rw [<- ho,List.length_map] at c;simpa using aR .e)]
 rfl
theorem B6 {t:FS}{fr:Addr->FI}{x:Addr}{τ τ1:aE}{ns:.V}{us:List T}(h:t τ=some (.nx τ1))(ha:bE τ1=true)(h0:τ1[0]? = some (fP .hK)):Fm t fr x τ ns us=fr x τ1 ns us:=by
 unfold Fm
 rw [h,zaa]
 dsimp only
 rw [if_pos ha,h0]
 exact .eZ
theorem xI {f:FE}{τ τ':aE}{t:T}(h:f τ=some (t,τ')):sS f τ=some (.nx τ'):=by
 unfold sS
 rw [h]
 rfl
abbrev OK:List T->Option uM:=dI 3 1 (eu ic dR dz cM cI eW dN JX Rj Rh Rb)
noncomputable abbrev Bt:List Str:=([]:List Str)++[Str.ofString "whole"]++[Str.ofString "all_parts"]++[Str.ofString "in_parts"]++[Str.ofString "cell_parts"]++[Str.ofString "out_parts"]++[Str.ofString "inner_parts"]
theorem UD:¬ Str.ofString "all_parts"∈(([]:List Str)++[Str.ofString "whole"]:List Str):=.c
theorem UE:¬ Str.ofString "in_parts"∈(([]:List Str)++[Str.ofString "whole"]++[Str.ofString "all_parts"]:List Str):=.c
theorem UG:¬ Str.ofString "cell_parts"∈(([]:List Str)++[Str.ofString "whole"]++[Str.ofString "all_parts"]++[Str.ofString "in_parts"]:List Str):=.c
theorem UH:¬ Str.ofString "out_parts"∈(([]:List Str)++[Str.ofString "whole"]++[Str.ofString "all_parts"]++[Str.ofString "in_parts"]++[Str.ofString "cell_parts"]:List Str):=.c
theorem UI:¬ Str.ofString "inner_parts"∈(([]:List Str)++[Str.ofString "whole"]++[Str.ofString "all_parts"]++[Str.ofString "in_parts"]++[Str.ofString "cell_parts"]++[Str.ofString "out_parts"]:List Str):=.c
theorem G8 {f:Pt->Bool}{ft:FT}{ps:.ap}{τ:aE}(h1:∀p,ft [s p.obj]=some (f p,[s p.obj]))(h:aX (ae 2) τ=some .gU)(hl:ps.length≤900):bq 1 [] (aX (ae 2)) (ai 0) ft (ae 0) τ=some (.lst ((ps.filter f).map Pt.obj),τ):=
 bX h rfl rfl (oM rfl h1 ps none [] .az .bM)
theorem Mr {ps:.ap}{r:.bj}(h:.d1):∃Q,JJ ps Q/\OK [tx .cr]=some (Bt,[tx .cr,.tup .b1,.tup ((ps.filter Pt.isIn).map Pt.obj),.tup ((ps.filter Pt.isCell).map Pt.obj),.tup ((ps.filter Pt.isOut).map Pt.obj),.tup .gm]):=by
 have hl:=h.len
 have h0:ps≠[]:=fun e=>by
  have:=h.ins.1
  rw [e] at this
  simp at this
 obtain⟨Q,B,d⟩:=PY h
 refine⟨Q,B,wa ⟨rfl,fun x=>?_⟩⟩
 show eu ic dR dz cM cI eW dN JX Rj Rh Rb x [fP .hK,.l .cr,none] [] []=_
 unfold eu
 rw [B6 (τ1:=[fP .hK,.l .cr,.G]) (cF (.am (N0 h0 h.ok hl)) rfl) rfl rfl,
  B6 (τ1:=[fP .hK,.l .cr,.G]) (xI (.am (Qz h))) rfl rfl,
  B6 (τ1:=[fP .hK,.l .cr,.G]) (xI (.am (Qv h))) rfl rfl,
  fX (t:=tx .cr) rfl rfl ⟨zar,.f⟩ rfl,
  fX (t:=.tup .b1) (.am rfl) rfl ⟨UD,zai rfl⟩ rfl,
  fX (t:=.tup ((ps.filter Pt.isIn).map Pt.obj)) (aB _ (bJ (G8 (f:=Pt.isIn) (fun p=>eN (Mg rfl) rfl) rfl .e)) rfl) rfl ⟨UE,zai rfl⟩ rfl,
  fX (t:=.tup ((ps.filter Pt.isCell).map Pt.obj)) (aB _ (bJ (G8 (f:=Pt.isCell) (fun p=>eN (Me rfl) rfl) rfl .e)) rfl) rfl ⟨UG,zai rfl⟩ rfl,
  fX (t:=.tup ((ps.filter Pt.isOut).map Pt.obj)) (aB _ (bJ (G8 (f:=Pt.isOut) (fun p=>eN (HA rfl) rfl) rfl .e)) rfl) rfl ⟨UH,zai rfl⟩ rfl,
  fX (t:=.tup .gm) (aB _ (bJ (.am d)) rfl) rfl ⟨UI,zai rfl⟩ rfl]
 rfl
def Gn (b:Bool)(v:Rat):Rat:=if b then v else -v
def Pw (e:Nat):Nat:=27720^e
def Kw (e:Nat):Nat:=2744280^e
def Sq (e j:Nat)(v:Rat):Prop:=∃n:Int,v*((Pw e:Nat):Int)=(n:Rat)/\n.natAbs≤j*Kw e
abbrev Dq (e:Nat)(v:Rat):Prop:=Sq e 1 v
theorem Gu (e:Nat):0<Pw e:=Nat.pow_pos .f
theorem JI (e:Nat):((Pw (e+1):Nat):Int)=(Pw e:Nat)*27720:=by unfold Pw;rw [Nat.pow_succ];rfl
theorem JH (e:Nat):Kw (e+1)=Kw e*2744280:=Nat.pow_succ ..
theorem KC:4*Kw 55<C:=.c
theorem Gs {a b:Nat}(h:a≤b):Kw a≤Kw b:=Nat.pow_le_pow_right .f h
theorem LU (e:Nat):Pw e≤Kw e:=Nat.pow_le_pow_left .f e
theorem Sq.sm {e j:Nat}{v:Rat}(h:Sq e j v)(he:e≤55)(S:j≤4):Sm v:=by
 obtain⟨n,h1,h2⟩:=h
 have hp:(0:Int)<(Pw e:Nat):=by have:=Gu e;omega
 have hz:(((Pw e:Nat):Int):Rat)≠0:=fun z=>by have:=zb4.mp (z.trans zbU.symm);omega
 have e1:v=Rat.divInt n (Pw e:Nat):=by rw [zbz];grind
 have g:=xH (a:=n) hp
 rw [<- e1] at g
 have g1:=Gs he
 have g2:=LU e
 have g3:=KC
 have C:=zbC (Kw e) S
 rw [zb7] at g
 exact⟨.e,.e⟩
theorem Sq.up {e j:Nat}{v:Rat}(h:Sq e j v)(S:j≤99):Dq (e+1) v:=by
 obtain⟨n,h1,h2⟩:=h
 refine⟨n*27720,?_,?_⟩
 ·rw [JI,zbx,zbx,<- h1,Rat.mul_assoc]
 ·rw [JH,zaZ,Nat.one_mul,show (27720:Int).natAbs=27720 from rfl]
  have:=zbC (Kw e) S
  omega
theorem Dq.le {a b:Nat}{v:Rat}(h:Dq a v)(hb:a≤b):Dq b v:=by
 induction hb with
 |refl=>exact h
 |step _ A=>exact Sq.up A .f
theorem Sq.zero {e:Nat}:Sq e 0 0:=⟨0,by rw [Rat.zero_mul];rfl,za4 _⟩
theorem Sq.neg {e j:Nat}{v:Rat}(h:Sq e j v):Sq e j (-v):=by
 obtain⟨n,h1,h2⟩:=h
 exact⟨-n,by rw [Rat.neg_mul,h1,Rat.intCast_neg],by rw [Int.natAbs_neg];exact h2⟩
theorem Sq.add {e i j:Nat}{v w:Rat}(h:Sq e i v)(h':Sq e j w):Sq e (i+j) (v+w):=by
 obtain⟨n,h1,h2⟩:=h
 obtain⟨m,W,N⟩:=h'
 exact⟨n+m,by rw [Rat.add_mul,h1,W,Rat.intCast_add],by rw [Nat.add_mul];omega⟩
theorem Sq.mul {d e:Nat}{v w:Rat}(h:Dq d v)(h':Dq e w):Dq (d+e) (v*w):=by
 obtain⟨n,h1,h2⟩:=h
 obtain⟨m,W,N⟩:=h'
 refine⟨n*m,?_,?_⟩
 ·rw [zbx,<- h1,<- W,show Pw (d+e)=Pw d*Pw e from Nat.pow_add ..,Int.natCast_mul,zbx]
  grind
 ·rw [zaZ,show Kw (d+e)=Kw d*Kw e from Nat.pow_add ..,Nat.one_mul]
  rw [Nat.one_mul] at h2 N
  exact zb8 h2 N
theorem Sq.sg {e j:Nat}{v:Rat}(b:Bool)(h:Sq e j v):Sq e j (Gn b v):=by
 cases b with
 |true=>exact h
 |false=>exact h.neg
theorem Pl:∀b:Nat,b≤12->0<b->b*(27720/b)=27720:=.f
theorem G5 {q:Rat}(h:OU q):Dq 1 q:=by
 have hb:0<q.den:=zbt q.den_nz
 have e:=Pl q.den h.2 hb
 refine⟨q.num*(27720/q.den:Nat),?_,?_⟩
 ·have e1:=gK q
  rw [zbz] at e1
  have hz:(((q.den:Nat):Int):Rat)≠0:=fun z=>by have:=zb4.mp (z.trans zbU.symm);omega
  rw [show Pw 1=q.den*(27720/q.den) from e.symm,Int.natCast_mul,zbx,zbx]
  generalize (((27720/q.den:Nat):Int):Rat)=k at *
  generalize (((q.den:Nat):Int):Rat)=d at *
  generalize ((q.num:Int):Rat)=n at *
  rw [<- e1]
  grind
 ·rw [zaZ,zb7]
  exact zaG (zb8 h.1 (Nat.div_le_self ..)) .f
def sums (val:.hh)(a:Rat)(ts:.dD):Rat:=ts.foldl (fun a t=>a+Gn t.1 (val t.2)) a
noncomputable def Pt.told (val:.hh):Pt->Rat
 | .inp n=>val n
 | .cell _ w=>val w
 | .gain _ q w=>q*val w
 | .sum _ ts=>sums val 0 ts
 | .out w=>val w
def Pt.eyes:Pt->List .bL
 | .inp n=>[n]
 |p=>p.ws
abbrev OE:List T->Option T:=cj 2 2 (rC Kv)
theorem Sx {x y:Rat}(hx:Sm x)(R:Sm y):OE [cm x,cm y]=some (cm (x + -y)):=by
 refine .dQ
 show rC Kv [.aY x,.aY y]=_
 unfold rC
 have hn:Sm (-y):=⟨by rw [Rat.neg_num,Int.natAbs_neg];exact R.n,by rw [Rat.neg_den];exact R.d⟩
 refine cO (aB _ (ck (t:=cm x) (u:=cm (-y)) rfl ?_) (Mj hx hn))
 have:cm (-y)=.tup [.int (-y.num),.int (y.den:Int)]:=by unfold cm;rw [Rat.neg_num,Rat.neg_den]
 rw [this]
 refine ko (ck ?_ .dd)
 unfold uV
 rw [aQ (a:=cm y) (b:=.int 0) (t:=.int y.num) rfl rfl rfl]
 rfl
abbrev ES:List T->Option T:=cj 2 2 nJ
abbrev BM:List T->Option T:=cj 2 2 (qy dR dz cM cI)
abbrev BK:List T->Option T:=cj 2 2 (nD dz cM eW)
abbrev BL:List T->Option T:=cj 2 2 (nG cM dz eW RA)
abbrev BO:List T->Option T:=cj 5 2 (iE cI Kv OE)
abbrev BN:List T->Option T:=cj 2 2 (oI dz cM eW)
abbrev Mz:List .aW:=[(ic,ES),(dR,BM),(dz,BK),(cM,BL),(cI,BO),(eW,BN)]
noncomputable abbrev dT:Pt->List T->Option T
 | .inp _=>BM
 | .cell _ _=>BK
 | .gain _ _ _=>BL
 | .sum _ _=>BO
 | .out _=>BN
theorem MS (p:Pt):qF p.cls Mz=some (dT p):=by cases p<;>rfl
structure Dv (e:Nat)(ns:.V)(ts:List T)(val:.hh)(ws:.R):Prop where
 lk:∀w∈ws,GQ ns ts (S w)=some (cm (val w))
 bd:∀w∈ws,Dq e (val w)
variable {ns:.V}{ts:List T}{val:.hh}{e:Nat}
theorem sO {w:.D}{fd fk:FE}{τ τ1 τ2:aE}{ws:.R}(h:Dv e ns ts val ws)(L:w∈ws)(h1:fd τ=some (.dct ns ts,τ1))(h2:fk τ1=some (tx w,τ2)):au iY fd fk τ=some (cm (val w),τ2):=aQ h1 h2 (h.lk w L)
def RN:FS:=(bF 2 (zP (du (.a il 3 1)) (.aN Kv) (.aN OE)))
theorem Es (he:e≤55)(o:T):∀(us:.dD) (q:Rat) (k:Nat) (j B:.aB),Dv e ns ts val (us.map (·.2))->Sq e k q->k+us.length≤4->∃I V,cN (bS (.a 3 4)) RN (us.map jV) [s o,s (.dct ns ts),.aY q,j,B]=some (.nx [s o,s (.dct ns ts),.aY (sums val q us),I,V])
 |[],q,k,j,B,_,_,_=>⟨j,B,rfl⟩
 |u::us,q,k,j,B,hd,hq,hk=>by
  rw [zaj] at hk
  have hm:u.2∈(u::us).map (·.2):=zah.mpr ⟨u,zad,rfl⟩
  have N:=hd.bd u.2 hm
  obtain⟨I,V,h2⟩:=Es he o us (q+Gn u.1 (val u.2)) (k+1) (s (.af (Bb u.1))) (s (tx u.2)) ⟨fun w L=>hd.lk w (.aT L),fun w L=>hd.bd w (.aT L)⟩ (hq.add (N.sg _)) .e
  refine⟨I,V,?_⟩
  have hB:RN .aS=some (.nx [s o,s (.dct ns ts),.aY (q+Gn u.1 (val u.2)),.e (Bb u.1),s (tx u.2)]):=by
   unfold RN
   have U:du (.a il 3 1) .aS=some (u.1,.aS):=gg (aQ rfl rfl (by cases u.1<;>rfl))
   refine cF (t:=cm (q+Gn u.1 (val u.2))) (τ1:=.aS) ?_ rfl
   have M:au iY (ae 1) (ae 4) .aS=some (cm (val u.2),.aS):=sO hd hm rfl rfl
   have hs:=hq.sm he .e
   have L:=N.sm he .f
   cases hu:u.1 with
   |true =>
    rw [hu] at U M
    rw [Aa U]
    exact aB _ (ck rfl M) (Mj hs L)
   |false =>
    rw [hu] at U M
    rw [Mb U]
    exact aB _ (ck rfl M) (Sx hs L)
  rw [zag,cW rfl hB,h2]
  rfl
theorem El:∀(us:.dD) (q:Rat) (k:Nat),(∀u∈us,Dq e (val u.2))->Sq e k q->Sq e (k+us.length) (sums val q us)
 |[],_,_,_,h=>h
 |u::us,q,k,hd,h=>by
  have:=El us (q+Gn u.1 (val u.2)) (k+1) (fun x hx=>hd x (.aT hx)) (h.add ((hd u zad).sg _))
  rw [zaj,zcg us.length,<- Nat.add_assoc]
  exact this
theorem LJ {p:Pt}(h:p.Ok)(hd:∀w∈p.eyes,Dq e (val w)):Dq (e+1) (p.told val):=by
 cases p with
 |inp n=>exact (hd n .bh).up .f
 |cell n w=>exact (hd w .bh).up .f
 |out w=>exact (hd w .bh).up .f
 |gain n q w =>
  have:=Sq.mul (G5 h.2.2) (hd w .bh)
  rw [zcg] at this
  exact this
 |sum n us=>exact (El us 0 0 (fun u hu=>hd _ (zah.mpr ⟨u,hu,rfl⟩)) Sq.zero).up (by have:=h.2.1;omega)
theorem To (he:e≤55){p:Pt}(h:p.Ok)(hd:Dv e ns ts val p.eyes):dT p [p.obj,.dct ns ts]=some (cm (p.told val)):=by
 cases p with
 |inp n=>exact cu rfl (cO (sO hd (w:=n) .bh rfl rfl))
 |cell n w=>exact cu rfl (cO (sO hd (w:=w) .bh rfl rfl))
 |out w=>exact cu rfl (cO (sO hd (w:=w) .bh rfl rfl))
 |gain n q w =>
  have hq:Sm q:=⟨zaK h.2.2.1 .c,zaK h.2.2.2 .c⟩
  exact cu rfl (cO (aB _ (ck rfl (sO hd (w:=w) .bh rfl rfl)) (P7 hq ((hd.bd w .bh).sm he .f))))
 |sum n us =>
  obtain⟨I,V,h2⟩:=Es he (Pt.sum n us).obj us 0 0 none none hd Sq.zero (by have:=h.2.1;omega)
  refine .dQ
  show iE cI Kv OE [s (Pt.sum n us).obj,s (.dct ns ts),none,none,none]=_
  have e:iE cI Kv OE=aH (bF 2 (fC (.Y (0) (1)))) (aH (fW (aX (dJ [cI] "terms" (ae 0))) (bS (.a 3 4)) RN) (.a1 2)):=rfl
  rw [e,aS (show bF 2 (fC (.Y (0) (1))) [s (Pt.sum n us).obj,s (.dct ns ts),none,none,none]=some (.nx [s (Pt.sum n us).obj,s (.dct ns ts),.aY 0,none,none]) from rfl),aS (iz rfl h2)]
  rfl
theorem Eo (he:e≤55){p:Pt}(h:p.Ok)(hd:Dv e ns ts val p.eyes){fo:FE}{i:Nat}{τ:aE}(ho:fo τ=some (p.obj,τ))(hi:τ[i]? = some (s (.dct ns ts))):cv Mz "tells" fo (.ac (ae i)) τ=some (cm (p.told val),τ):=Qr SJ ho (MS p) (bJ (uE hi)) (To he h hd)
abbrev qT (x:.bC):T:=.lst (x.map cm)
abbrev cz (xs:.ad):T:=.lst (xs.map qT)
def nC (e:Nat)(x:.bC):Prop:=∀v∈x,Dq e v
theorem nC.le {a b:Nat}{x:.bC}(h:nC a x)(hb:a≤b):nC b x:=fun v N=>Dq.le (h v N) hb
abbrev dm (ps:.ap):List Pt:=ps.filter Pt.isIn
abbrev cG (ps:.ap):List Pt:=ps.filter Pt.isCell
abbrev kL (ps:.ap):List Pt:=ps.filter Pt.isOut
theorem GB {α:Type}:∀l:List α,boolsOf .gJ=some (l.map fun _=>true)
 |[]=>rfl
 |a::l=>by
  show (boolsOf .gJ).bind _=_
  rw [GB l]
  rfl
theorem Df {α:Type}(l:List α):kA [.lst .gJ]=some .b4:=by
 show (boolsOf _).bind _=_
 rw [GB l]
 exact congrArg (fun b=>some (T.bl b)) (zbT.mpr fun b hb=>by
  obtain⟨_,_,rfl⟩:=zah.mp hb
  rfl)
abbrev Rc:List T->Option T:=cj 2 2 (zG L0)
theorem Py {v:Rat}(h:Sm v):L0 [cm v]=some .b4:=by
 have e:=Mc (a:=v.num) (b:=v.den) (ltB h.n) (zaS h.d CB)
 rw [decide_eq_true (show 1≤v.den from zbt v.den_nz),decide_eq_true (show Int.gcd v.num v.den=1 from v.reduced)] at e
 exact e
theorem Md {x:.bC}{n:Nat}(h:∀v∈x,Sm v)(hl:x.length=n)(hn:n≤900):Rc [qT x,bf n]=some .b4:=by
 refine cu rfl (cO (τ':=[s (qT x),.j n]) ?_)
 show hU _ _ [s (qT x),.j n]=_
 rw [xj (aB _ .bv rfl),xj (aQ (aB [qT x] .aV rfl) rfl (by rw [gW,zaf,hl,decide_eq_true rfl]))]
 refine aB _ (bJ (bX (ts:=x.map cm) rfl rfl rfl (bP (φ:=cm) (g:=fun _=>T.bl true) (ρ:=[]) rfl x none [] (fun v N=>aB _ .aV (Py (h v N))) (by rw [hl];simpa using aR .e)))) (Df x)
abbrev Rk:List T->Option T:=cj 4 4 (iN Rc)
theorem QB {x:.bC}{gs:.ad}{m n:Nat}(hx:∀v∈x,Sm v)(hm:x.length=m)(c:m≤900)(M:∀g∈gs,(∀v∈g,Sm v)/\g.length=n)(hn:n≤900)(hl:gs.length≤60):Rk [bf m,bf n,qT x,cz gs]=some .non:=by
 refine GR (τ:=[.j m,.j n,s (qT x),s (cz gs)]) rfl ?_
 show iN Rc [.j m,.j n,s (qT x),s (cz gs)]=_
 unfold iN
 rw [aS (fL (oX (eN (aB _ .bv (Md hx hm c)) (b:=true) rfl))),
  aS (fL (qJ (oX (eN (aB [cz gs,.hP] .bv rfl) (b:=true) rfl)) (Hv (n:=gs.length) (aB [cz gs] .aV (by rw [rP,zaf])) .e)))]
 exact fL (oX (eN (aB _ (bJ (bX (ts:=gs.map qT) rfl rfl rfl (bP (φ:=qT) (g:=fun _=>T.bl true) (ρ:=[s (bf n)]) rfl gs none [] (fun g h=>aB _ .bv (Md (M g h).1 (M g h).2 hn)) .az))) (Df gs)) (b:=true) rfl))
abbrev wo (a b c d e f:T):T:=.obj dN Bt [a,b,c,d,e,f]
theorem wf {y:T}{k:Str}{a b c d e f:T}{fo:FE}{τ τ1:aE}(hk:uX k Bt [a,b,c,d,e,f]=some y)(h:fo τ=some (wo a b c d e f,τ1)):dJ [dN] k fo τ=some (y,τ1):=by
 unfold dJ
 rw [h,zaa]
 dsimp only
 rw [if_pos .bh,hk]
 rfl
theorem Q2 {a b c d e f:T}:uX "in_parts" Bt [a,b,c,d,e,f]=some c:=.a
theorem LL {a b c d e f:T}:uX "cell_parts" Bt [a,b,c,d,e,f]=some d:=.a
theorem Ts {a b c d e f:T}:uX "out_parts" Bt [a,b,c,d,e,f]=some e:=.a
theorem Tq {a b c d e f:T}:uX "inner_parts" Bt [a,b,c,d,e,f]=some f:=.a
abbrev JY:List T->Option T:=cj 1 1 (nL dN)
abbrev OG:List T->Option T:=cj 1 1 (gZ dN dR dz cM cI)
theorem Qd:¬ Str.ofString "ins"∈Bt:=.c
theorem SH:¬ Str.ofString "cell_names"∈Bt:=.c
theorem SM:¬ Str.ofString "values_at"∈Bt:=.c
theorem SK:¬ Str.ofString "run"∈Bt:=.c
theorem Q3 {a b d e f:T}{c:List T}:JY [wo a b (.tup c) d e f]=some (.af (c.length:Nat)):=cu rfl (cO (aB [.tup c] (bJ (wf Q2 rfl)) rfl))
abbrev Al:=List (List Nat×Rat)
abbrev nS (al:Al):List Str:=(al.map (·.1)).map S
abbrev oE (al:Al):List T:=al.map fun x=>cm x.2
def valOf (al:Al)(w:.D):Rat:=(al.lookup w).getD 0
theorem ia {x:List Nat×Rat}{al:Al}{w:.D}:valOf (x::al) w=if x.1=w then x.2 else valOf al w:=by
 unfold valOf
 rw [zbh]
 by_cases e:x.1=w
 ·rw [if_pos e,e,beq_self_eq_true]
  rfl
 ·rw [if_neg e,show (w == x.1)=false from beq_false_of_ne fun z=>e z.symm]
theorem zC {w:.D}:∀{al:Al},w∈al.map (·.1)->GQ (nS al) (oE al) (S w)=some (cm (valOf al w))/\∃x∈al,x.2=valOf al w
 |[],h=>by cases h
 |x::al,h=>by
  rw [ia]
  show GQ (S x.1::nS al) (cm x.2::oE al) (S w)=_/\_
  rw [GQ]
  by_cases e:x.1=w
  ·rw [if_pos e,.ap (by rw [e])]
   exact⟨rfl,x,zad,rfl⟩
  ·obtain⟨h1,y,h2,W⟩:=zC (al:=al) ((zao.mp h).resolve_left fun z=>e z.symm)
   rw [if_neg e,if_neg (fun z=>e (C3 z))]
   exact⟨h1,y,zae _ h2,W⟩
theorem zo {w:.D}{l:Al}:∀{al:Al},w∈al.map (·.1)->valOf (al++l) w=valOf al w
 |[],h=>by cases h
 |x::al,h=>by
  rw [zcf,ia,ia]
  by_cases e:x.1=w
  ·rw [if_pos e,if_pos e]
  ·rw [if_neg e,if_neg e,zo ((zao.mp h).resolve_left fun z=>e z.symm)]
theorem Et {w:.D}{q:Rat}:∀{al:Al},w∉al.map (·.1)->valOf (al++[(w,q)]) w=q
 |[],_=>by rw [za7,ia,.eZ]
 |x::al,h=>by
  rw [zcf,ia,if_neg (fun e:x.1=w=>h (by rw [<- e];exact zad)),Et fun z=>h (.aT z)]
theorem oC {v v':.hh}{p:Pt}(h:∀w∈p.eyes,v w=v' w):p.told v=p.told v':=by
 cases p with
 |inp n=>exact h n .bh
 |cell n w=>exact h w .bh
 |out w=>exact h w .bh
 |gain n q w=>exact congrArg (q*·) (h w .bh)
 |sum n us =>
  have:∀(us:.dD) (q:Rat),(∀u∈us,v u.2=v' u.2)->sums v q us=sums v' q us:=by
   intro us
   induction us with
   |nil=>intro _ _;rfl
   |cons u us A =>
    intro q hu
    show sums v (q+Gn u.1 (v u.2)) us=sums v' (q+Gn u.1 (v' u.2)) us
    rw [hu u zad,A _ fun x hx=>hu x (.aT hx)]
  exact this us 0 fun u hu=>h _ (zah.mpr ⟨u,hu,rfl⟩)
theorem BY {p q:Pt}{n:.D}:∀{l:.ap},(l.filterMap Pt.nm).Nodup->p∈l->q∈l->p.nm=some n->q.nm=some n->p=q
 |[],_,h,_,_,_=>by cases h
 |a::l,hn,hp,hq,ep,eq=>by
  cases d:a.nm with
  |none =>
   rw [zbH d] at hn
   rcases zao.mp hp with k | k
   ·rw [k,d] at ep;cases ep
   ·rcases zao.mp hq with g | g
    ·rw [g,d] at eq;cases eq
    ·exact BY hn k g ep eq
  |some m =>
   rw [zaY d] at hn
   obtain⟨h1,h2⟩:=za0.mp hn
   have hm:∀z∈l,z.nm=some m->False:=fun z hz t=>h1 (zbi.mpr ⟨z,hz,t⟩)
   rcases zao.mp hp with k | k<;>rcases zao.mp hq with g | g
   ·rw [k,g]
   ·rw [k,d] at ep;cases ep;exact (hm q g eq).elim
   ·rw [g,d] at eq;cases eq;exact (hm p k ep).elim
   ·exact BY h2 k g ep eq
theorem Mm {p:Pt}(h:p.isIn=true):p.nm=some p.nam:=by cases p<;>first | rfl | cases h
theorem Ml {p:Pt}(h:p.isCell=true):p.nm=some p.nam:=by cases p<;>first | rfl | cases h
theorem L8:∀{l:.ap},(∀p∈l,p.nm=some p.nam)->l.filterMap Pt.nm=l.map Pt.nam
 |[],_=>rfl
 |p::l,h=>by rw [zaY (h p zad),L8 fun q hq=>h q (.aT hq),zag]
theorem Jj {ps:.ap}{f:Pt->Bool}(hn:(ps.filterMap Pt.nm).Nodup)(hf:∀p,f p=true->p.nm=some p.nam):((ps.filter f).map Pt.nam).Nodup:=by
 rw [<- L8 fun p hp=>hf p (zal.mp hp).2]
 exact List.Sublist.nodup ((List.filter_sublist (l:=ps) (p:=f)).filterMap Pt.nm) hn
theorem Sb {ps:.ap}(hn:(ps.filterMap Pt.nm).Nodup){A B:.ap}(ha:∀p∈A,p∈ps/\p.nm=some p.nam)(hb:∀p∈B,p∈ps/\p.nm=some p.nam)(hd:∀p∈A,p∉B):∀x∈A.map Pt.nam,∀y∈B.map Pt.nam,x≠y:=by
 intro x hx y R e
 obtain⟨p,hp,rfl⟩:=zah.mp hx
 obtain⟨q,hq,rfl⟩:=zah.mp R
 have:=BY hn (ha p hp).1 (hb q hq).1 (ha p hp).2 (e ▸ (hb q hq).2)
 exact hd p hp (this ▸ hq)
variable {ps Q:.ap}{r:.bj}
theorem B7:∀p∈dm ps,p∈ps/\p.nm=some p.nam:=fun p hp=>⟨(zal.mp hp).1,Mm (zal.mp hp).2⟩
theorem xv:∀p∈cG ps,p∈ps/\p.nm=some p.nam:=fun p hp=>⟨(zal.mp hp).1,Ml (zal.mp hp).2⟩
theorem JJ.nq (h:JJ ps Q):∀p∈Q,p∈ps/\p.nm=some p.nam:=fun p hp=>⟨(zal.mp (h.sub p hp)).1,mw (zal.mp (h.sub p hp)).2⟩
theorem Kr (h:.d1)(hQ:JJ ps Q):((dm ps).map Pt.nam++(cG ps).map Pt.nam++Q.map Pt.nam).Nodup:=by
 have i1:∀p∈dm ps,p∉cG ps:=fun p hp hc=>by
  have a:=(zal.mp hp).2
  have b:=(zal.mp hc).2
  cases p<;>first | (cases a;done) | (cases b;done)
 have i2:∀p∈dm ps,p∉Q:=fun p hp hc=>by
  have a:=(zal.mp hp).2
  rw [(p0 (zal.mp (hQ.sub p hc)).2).1] at a
  cases a
 have i3:∀p∈cG ps,p∉Q:=fun p hp hc=>by
  have a:=(zal.mp hp).2
  rw [(p0 (zal.mp (hQ.sub p hc)).2).2.1] at a
  cases a
 rw [zaI,zaI]
 refine⟨⟨Jj h.nd fun _=>Mm,Jj h.nd fun _=>Ml,Sb h.nd B7 xv i1⟩,hQ.nd,fun x hx=>?_⟩
 rcases zaz.mp hx with hx | hx
 ·exact Sb h.nd B7 hQ.nq i2 x hx
 ·exact Sb h.nd xv hQ.nq i3 x hx
abbrev GI (z:Pt×Rat):List Nat×Rat:=(z.1.nam,z.2)
abbrev Qs (z:Pt×Rat):T:=.tup [z.1.obj,cm z.2]
abbrev vO (w x g:T)(a:Addr)(B c:.aB):aE:=[s w,s x,s g,s (.ptr a),B,c]
theorem ua (w x g:T)(a:Addr)(B c:.aB):mx 3 a (.a3 B)=true:=Nat.beq_refl a
def R5 (x:.aB):Prop:=x=none\/∃t,x=s t
theorem Eu (w x g:T):∀(l:List (Pt×Rat)) (al:Al) (B c:.aB),(∀z∈l,z.1.nm=some z.1.nam)->(al.map (·.1)++l.map fun z=>z.1.nam).Nodup->al.length+l.length≤100->R5 c->∃V Z,R5 Z/\∀a,kj 3 (bS (.a 4 5)) (Bp 3 (.ag 4) (ae 5)) (l.map Qs) a (nS al,oE al) (.a3 B)
  = some ((nS (al++l.map GI),oE (al++l.map GI)),vO w x g a V Z)
 |[],al,B,c,_,_,_,D=>⟨B,c,D,fun a=>by simp [kj]⟩
 |z::l,al,B,c,hn,hd,hl,_=>by
  rw [zaj] at hl
  have i:S z.1.nam∉nS al:=by
   rw [wF]
   exact fun q=>(zaI.mp hd).2.2 _ q _ zad rfl
  obtain⟨V,Z,D,h2⟩:=Eu w x g l (al++[GI z]) (s z.1.obj) (s (cm z.2)) (fun y R=>hn y (.aT R)) (by rw [zay,zaJ];exact hd) .a5 (.inr ⟨_,rfl⟩)
  refine⟨V,Z,D,fun a=>?_⟩
  rw [zag,kj,show bS (.a 4 5) (Qs z) (.a3 B)=some .ge from rfl,zaa,if_pos (ua ..)]
  have hB:Bp 3 (.ag 4) (ae 5) a (nS al,oE al) .ge=some ((nS (al++[GI z]),oE (al++[GI z])),vO w x g a (s z.1.obj) (s (cm z.2))):=by
   unfold Bp
   rw [show ae 5 .ge=some (cm z.2,vO w x g a (s z.1.obj) (s (cm z.2))) from rfl,zaa]
   dsimp only
   rw [.ap (ua ..),qb (hn z zad) (τ1:=vO w x g a (s z.1.obj) (s (cm z.2))) rfl,zaa]
   dsimp only
   rw [if_pos ⟨ua ..,bN (by rw [zaf,zaf];omega)⟩,rT (by rw [zaf,zaf,zaf]) i]
   unfold nS oE
   simp
  rw [hB,zaa,h2]
  simp
theorem sR {p:Pt}(h:p.inner=true):p.eyes=p.ws:=by cases p<;>first | rfl | cases h
theorem Ew (h:.d1)(w x g:T):∀(Q:.ap) (d:.R) (al:Al) (e:Nat) (B c:.aB),(∀p∈Q,p∈bZ ps)->Rd ps d (Q.map Pt.nam)->(∀n∈ps.filterMap Pt.nm,n∉rN ps->n∈al.map (·.1))->(∀n∈d,n∈al.map (·.1))->(al.map (·.1)++Q.map Pt.nam).Nodup->(∀z∈al,Dq e z.2)->e+Q.length≤55->al.length+Q.length≤100->R5 c ->
  ∃(f:Al) (V:.aB),f.map (·.1)=al.map (·.1)++Q.map Pt.nam/\(∀n∈al.map (·.1),valOf f n=valOf al n)/\(∀p∈Q,valOf f p.nam=p.told (valOf f))/\(∀z∈f,Dq (e+Q.length) z.2) /\
  ∀a,kj 3 (ai 4) (Bq 3 (.ag 4) (.ah 4 3)) .gm a (nS al,oE al) (.a3 B)=some ((nS f,oE f),vO w x g a V c)
 |[],d,al,e,B,c,_,_,_,_,_,hz,_,_,_=>⟨al,B,.h,fun _ _=>rfl,fun _ hp=>(by cases hp),hz,fun a=>by simp [kj]⟩
 |p::Q,d,al,e,B,c,hq,u,ho,hd,hn,hz,he,hl,D=>by
  rw [zaj] at hl he
  obtain⟨⟨P,J,e1,hw⟩,u⟩:=u
  have hp:=hq p zad
  obtain⟨j,F⟩:=zal.mp hp
  cases n0 (pZ h) J hp e1
  have hk:∀v∈p.eyes,v∈al.map (·.1):=fun v N=>by
   rw [sR F] at N
   by_cases hi:v∈rN ps
   ·exact hd v (hw v (zal.mpr ⟨N,decide_eq_true hi⟩))
   ·exact ho v (h.ws p j v N) hi
  have N:Dv e (nS al) (oE al) .cA p.eyes:=⟨fun v N=>(zC (hk v N)).1,fun v N=>by
   obtain⟨y,R,G⟩:=(zC (hk v N)).2
   rw [<- G]
   exact hz y R⟩
  have hok:=h.ok p j
  have i:p.nam∉al.map (·.1):=fun q=>(zaI.mp hn).2.2 _ q _ zad rfl
  have sub:∀n,n∈al.map (·.1)->n∈(al++[(p.nam,p.told .cA)]).map (·.1):=fun n hn=>by
   rw [zay]
   exact zaH _ hn
  obtain⟨f,V,g1,g2,g3,C,Y⟩:=Ew h w x g Q (d++[p.nam]) (al++[(p.nam,p.told .cA)]) (e+1) (s p.obj) c (fun y R=>hq y (.aT R)) u (fun n a b=>sub n (ho n a b)) (fun n hm=>by
   rcases zaz.mp hm with hm | hm
   ·exact sub n (hd n hm)
   ·rw [zac.mp hm,zay]
    exact zaq _ zad) (by rw [zay,zaJ];exact hn) (fun y R=>by
   rcases zaz.mp R with R | R
   ·exact Dq.le (hz y R) (zbu e)
   ·rw [zac.mp R]
    exact LJ hok N.bd) .e .a5 D
  have k:∀n∈al.map (·.1),valOf f n=valOf al n:=fun n hm=>(g2 n (sub n hm)).trans (zo hm)
  refine⟨f,V,by rw [g1,zay,zaJ];rfl,k,zab.mpr ⟨?_,g3⟩,fun y R=>Dq.le (C y R) (by rw [zaj];omega),fun a=>?_⟩
  ·rw [g2 p.nam (by rw [zay];exact zaq _ zad),Et i]
   exact oC fun v N=>(k v (hk v N)).symm
  rw [zag,kj,show ai 4 p.obj (.a3 B)=some (.a3 (s p.obj)) from rfl,zaa,if_pos (ua ..)]
  have hB:Bq 3 (.ag 4) (.ah 4 3) a (nS al,oE al) (.a3 (s p.obj))=some ((nS (al++[(p.nam,p.told .cA)]),oE (al++[(p.nam,p.told .cA)])),vO w x g a (s p.obj) c):=by
   unfold Bq
   rw [show (hide (.a3 (s p.obj))).set 3 (fP .aY)=[s w,s x,s g,s .aY,s p.obj,c] by rcases D with rfl | ⟨t,rfl⟩<;>rfl,Eo .e hok N rfl rfl,zaa]
   dsimp only
   rw [if_pos (show RE (cm (p.told .cA))=true from rfl),qb (mw F) (τ1:=vO w x g a (s p.obj) c) rfl,zaa]
   dsimp only
   rw [if_pos ⟨ua ..,bN (by rw [zaf,zaf];omega)⟩,rT (by rw [zaf,zaf,zaf]) (by rw [wF];exact i)]
   unfold nS oE
   simp
  rw [hB,zaa,Y]
structure Gy (ps:.ap)(x g:.bC)(v:.hh):Prop where
 gi:(dm ps).map (fun p=>v p.nam)=g
 ce:(cG ps).map (fun p=>v p.nam)=x
 inn:∀p∈bZ ps,v p.nam=p.told v
variable {ps Q:.ap}{r:.bj}{e:Nat}
theorem zq:∀{l:.ap} {g:.bC},l.length=g.length->(l.map Pt.nam).Nodup->l.map (fun p=>valOf ((List.zip l g).map GI) p.nam)=g
 |[],[],_,_=>rfl
 |[],_::_,h,_=>by cases h
 |_::_,[],h,_=>by cases h
 |p::l,q::g,h,hn=>by
  obtain⟨h1,h2⟩:=za0.mp hn
  rw [zag,zbJ,zag,ia,.eZ]
  congr 1
  refine Eq.trans (List.map_congr_left fun z hz=>?_) (zq (l:=l) (g:=g) .an h2)
  rw [ia,if_neg fun e=>h1 (zah.mpr ⟨z,hz,e.symm⟩)]
theorem Bn {w:.D}{l:Al}:∀{al:Al},w∉al.map (·.1)->valOf (al++l) w=valOf l w
 |[],_=>rfl
 |x::al,h=>by
  rw [zcf,ia,if_neg (fun e:x.1=w=>h (by rw [<- e];exact zad)),Bn fun z=>h (.aT z)]
theorem uL:∀{l:.ap} {g:.bC},l.length=g.length->((List.zip l g).map GI).map (·.1)=l.map Pt.nam
 |[],_,_=>rfl
 |_::_,[],h=>by cases h
 |p::l,q::g,h=>by
  rw [List.zip_cons_cons,List.map_cons,List.map_cons,uL .an,List.map_cons]
theorem named {p:Pt}{n:.D}(h:p.nm=some n):p.nam=n/\(p.isIn=true\/p.isCell=true\/p.inner=true):=by
 cases p with
 |inp m=>cases h;exact⟨rfl,.inl rfl⟩
 |cell m w=>cases h;exact⟨rfl,.inr .bM⟩
 |gain m q w=>cases h;exact⟨rfl,.inr (.inr rfl)⟩
 |sum m us=>cases h;exact⟨rfl,.inr (.inr rfl)⟩
 |out w=>cases h
abbrev Pf:List T->Option T:=cj 6 3 (dX ic dR dz cM cI eW dN ES BM BK BL BO BN)
noncomputable abbrev wT (ps Q:.ap):T:=wo (tx .cr) (.tup .b1) (.tup ((dm ps).map Pt.obj)) (.tup ((cG ps).map Pt.obj)) (.tup ((kL ps).map Pt.obj)) (.tup .gm)
theorem Ms {l:.ap}{y:.bC}{f g:FE}{τ:aE}(h:f τ=some (.tup (l.map Pt.obj),τ))(h':g τ=some (qT y,τ)):hV (.e f g) τ=some ((List.zip l y).map Qs,τ):=by
 unfold hV
 rw [ck h h',zaa]
 show some (jf (l.map Pt.obj) (y.map cm),_)=_
 rw [kq]
theorem EA {P:Pt->Prop}{l:.ap}{g:.bC}(h:∀p∈l,P p):∀z∈List.zip l g,P z.1:=fun z hz=>h _ (zaB hz).1
theorem J4 (h:.d1)(hQ:JJ ps Q){x g:.bC}(hx:(cG ps).length=x.length)(hg:(dm ps).length=g.length)(dx:nC e x)(dg:nC e g)(he:e≤47):
  ∃al:Al,Gy ps x g .cA/\(∀n∈ps.filterMap Pt.nm,n∈al.map (·.1))/\(∀z∈al,Dq (e+8) z.2)/\Pf [wT ps Q,qT x,qT g]=some .aY:=by
 have hi:(dm ps).length≤2:=h.ins.2
 have hc:(cG ps).length≤4:=h.cells
 have hN:=Kr h hQ
 have hQ8:Q.length≤8:=by
  have:=sub_len hQ.nd (b:=rN ps) fun n hn=>by
   obtain⟨p,hp,rfl⟩:=zah.mp hn
   exact zah.mpr ⟨p,hQ.sub p hp,rfl⟩
  rw [zaf,zaf] at this
  exact zaG this h.inn
 have k1:=uL hg
 have k2:=uL hx
 obtain⟨n1,n2,n3⟩:=zaI.mp hN
 obtain⟨n4,n5,n6⟩:=zaI.mp n1
 have l1:((List.zip (dm ps) g).map GI).length≤2:=by rw [zaf,za1];omega
 obtain⟨y4,y5,h5,g2⟩:=Eu .aA (qT x) (qT g) (List.zip (cG ps) x) ((List.zip (dm ps) g).map GI) none none (EA fun p hp=>(xv p hp).2) (by
  rw [k1,show (List.zip (cG ps) x).map (fun z=>z.1.nam)=(cG ps).map Pt.nam by rw [<- k2,zaC];rfl]
  exact n1) (by rw [za1];omega) .bM
 generalize ea:(List.zip (dm ps) g).map GI=a1 at *
 generalize eb:(List.zip (cG ps) x).map GI=b1 at *
 have k3:(a1++b1).map (·.1)=(dm ps).map Pt.nam++(cG ps).map Pt.nam:=by rw [zay,k1,k2]
 obtain⟨al,z4,f1,f2,f3,f4,f5⟩:=Ew h .aA (qT x) (qT g) Q [] (a1++b1) e y4 y5 hQ.sub hQ.rd (fun n hn hi=>by
  obtain⟨p,hp,en⟩:=zbi.mp hn
  obtain⟨q1,q2⟩:=named en
  rw [k3,<- q1]
  rcases q2 with q2 | q2 | q2
  ·exact zaH _ .dm
  ·exact zaq _ .dm
  ·exact absurd (zah.mpr ⟨p,zal.mpr ⟨hp,q2⟩,q1⟩) hi) (fun n hn=>by cases hn) (by rw [k3];exact hN) (fun z hz=>by
  rcases zaz.mp hz with hz | hz
  ·rw [<- ea] at hz
   obtain⟨y,hy,rfl⟩:=zah.mp hz
   exact dg _ (zaB hy).2
  ·rw [<- eb] at hz
   obtain⟨y,hy,rfl⟩:=zah.mp hz
   exact dx _ (zaB hy).2) .e (by rw [zak,<- eb,zaf,za1];omega) h5
 have hsol:Gy ps x g .cA:=by
  refine⟨?_,?_,fun p hp=>f3 p (hQ.all p hp)⟩
  ·refine Eq.trans (zbd fun p hp=>?_) ((congrArg (fun a=>(dm ps).map fun p=>valOf a p.nam) ea.symm).trans (zq hg n4))
   have hm:p.nam∈a1.map (·.1):=by rw [k1];exact zah.mpr ⟨p,hp,rfl⟩
   rw [f2 p.nam (by rw [zay];exact zaH _ hm),zo hm]
  ·refine Eq.trans (zbd fun p hp=>?_) ((congrArg (fun a=>(cG ps).map fun p=>valOf a p.nam) eb.symm).trans (zq hx n5))
   have hm:p.nam∈(cG ps).map Pt.nam:=zah.mpr ⟨p,hp,rfl⟩
   rw [f2 p.nam (by rw [k3];exact zaq _ hm),Bn fun z=>n6 _ (by rw [<- k1];exact z) _ hm rfl]
 refine⟨al,hsol,fun n hn=>?_,fun z hz=>Dq.le (f4 z hz) .e,cu rfl ?_⟩
 ·rw [f1,k3]
  obtain⟨p,hp,en⟩:=zbi.mp hn
  obtain⟨q1,q2⟩:=named en
  rw [<- q1]
  rcases q2 with q2 | q2 | q2
  ·exact zaH _ (zaH _ .dm)
  ·exact zaH _ (zaq _ .dm)
  ·exact zaq _ (zah.mpr ⟨p,hQ.all p (zal.mpr ⟨hp,q2⟩),rfl⟩)
 show dX ic dR dz cM cI eW dN ES BM BK BL BO BN [s .aA,s (qT x),s (qT g),none,none,none]=_
 unfold dX
 have hc0:=iX (φ:=Qs) (E:=fun z=>[s z.1.obj,s (cm z.2)]) (f:=fun _=>true) (P:=fun τ=>∃u v,τ=[u,v]) (fg:=bS (.a 0 1)) (k:=fun z:Pt×Rat=>z.1.nam) (g:=fun z=>cm z.2) (ft:=aI) (fk:=dJ [dR,dz,cM,cI] "name" (ae 0)) (fv:=ae 1)
  (fun τ z ⟨u,v,e⟩=>by rw [e];rfl) (fun z=>⟨_,_,rfl⟩) (fun z=>rfl) (List.zip (dm ps) g) [none,none] [] [] (fun z _=>rfl) (fun z hz _=>qb (EA (fun p hp=>(B7 p hp).2) z hz) rfl) (fun z _ _=>rfl) ⟨_,_,rfl⟩ rfl (by rw [za1,zbw];omega) (by
   rw [za7,oP,show (List.zip (dm ps) g).map (fun z=>z.1.nam)=(dm ps).map Pt.nam by rw [<- k1,<- ea,zaC];rfl]
   exact n4)
 refine EY (ts:=(List.zip (dm ps) g).map Qs) (τ1:=[s .aA,s (qT x),s (qT g),none,none,none]) (Ms (wf Q2 rfl) rfl) rfl rfl hc0 .c7 fun p=>?_
 rw [oP,List.nil_append,List.nil_append,show ((List.zip (dm ps) g).map (fun z=>z.1.nam)).map S=nS a1 by unfold nS;rw [<- ea];simp,show (List.zip (dm ps) g).map (fun z=>cm z.2)=oE a1 by unfold oE;rw [<- ea,List.map_map];rfl]
 show pK _ _ p (nS a1,oE a1) (vO .aA (qT x) (qT g) p none none)=_
 unfold pK CU
 rw [Ms (wf LL rfl) rfl,zaa]
 dsimp only
 rw [.ap (ua ..),g2 p,zaa]
 dsimp only
 rw [show aX (dJ [dN] "inner_parts" (ae 0)) (vO .aA (qT x) (qT g) p y4 y5)=some (Q.map Pt.obj,vO .aA (qT x) (qT g) p y4 y5) by unfold aX;rw [wf Tq rfl];rfl,Option.bind_some]
 dsimp only
 rw [.ap (ua ..),f5 p,zaa]
 rfl
noncomputable def Runs (ps:.ap):List Rat->List (List Rat)->List (List Rat)->List Rat->Prop
 |x,[],ys,x'=>ys=[]/\x'=x
 |x,g::gs,ys,x'=>∃v ys',Gy ps x g v/\ys=((kL ps).map fun p=>p.told v)::ys'/\Runs ps ((cG ps).map fun p=>p.told v) gs ys' x'
variable {ps Q:.ap}{r:.bj}{e:Nat}
noncomputable def RJ:FS:=(aH (bF 6 (cv [(dN,Pf)] "values_at" (ae 0) (.p 3 5)))
  (aH (eQ 4 (bq 1 [6] (aX (dJ [dN] "out_parts" (ae 0))) (ai 0) aI (.ah 0 1)))
  (cU 3 1 [6] (aX (dJ [dN] "cell_parts" (ae 0))) (ai 0) aI (.ah 0 1))))
abbrev D5 (w st l:T)(j:.aB)(ys:.ad)(c J:.aB):aE:=[s w,s st,s l,j,.o (ys.map qT),c,J]
def S3 (j:.aB)(x:.bC):Prop:=j=s (qT x)\/j=some (.own (x.map cm))
theorem xM (h:.d1){p:Pt}(hp:p∈ps)(hi:p.isIn=false):∀w∈p.eyes,w∈ps.filterMap Pt.nm:=fun w L=>by
 cases p with
 |inp n=>cases hi
 |_=>exact h.ws _ hp w L
theorem w6 (h:.d1){al:Al}{L:.ap}(d:∀p∈L,p∈ps/\p.isIn=false)(hk:∀n∈ps.filterMap Pt.nm,n∈al.map (·.1))(hz:∀z∈al,Dq e z.2)(he:e≤55)(hl:L.length≤50):
  dM (ai 0) aI (.ah 0 1) (L.map Pt.obj) [none,s .aY] []=some ((L.map fun p=>p.told .cA).map cm)/\∀p∈L,Dq e (p.told .cA)\/p.isCell=false/\p.isOut=false:=by
 have N:∀p∈L,Dv e (nS al) (oE al) .cA p.eyes:=fun p hp=>⟨fun v N=>(zC (hk v (xM h (d p hp).1 (d p hp).2 v N))).1,fun v N=>by
  obtain⟨y,R,G⟩:=(zC (hk v (xM h (d p hp).1 (d p hp).2 v N))).2
  rw [<- G]
  exact hz y R⟩
 refine⟨?_,fun p hp=>?_⟩
 ·rw [zaC]
  exact bP (φ:=Pt.obj) (g:=fun p=>cm (p.told .cA)) (ρ:=[s .aY]) rfl L none [] (fun p hp=>Eo he (h.ok p (d p hp).1) (N p hp) rfl rfl) .az
 ·cases p with
  |cell n w=>exact .inl ((N _ hp).bd w .bh)
  |out w=>exact .inl ((N _ hp).bd w .bh)
  |_=>exact .inr ⟨rfl,rfl⟩
theorem D6 (h:.d1)(hQ:JJ ps Q)(st gt:T):∀(gs:.ad) (x:.bC) (ys0:.ad) (e:Nat) (x3 x5 x6:.aB),S3 x3 x->(cG ps).length=x.length->(∀g∈gs,(dm ps).length=g.length/\nC e g)->nC e x->e+8*gs.length≤55->ys0.length+gs.length≤100 ->
  ∃ys x' y3 y5 y6,Runs ps x gs ys x'/\S3 y3 x'/\nC (e+8*gs.length) x'/\(∀y∈ys,nC (e+8*gs.length) y)/\cN (ai 5) RJ (gs.map qT) (D5 .aA st gt x3 ys0 x5 x6)=some (.nx (D5 .aA st gt y3 (ys0++ys) y5 y6))
 |[],x,ys0,e,x3,x5,x6,h3,_,_,hd,_,_=>⟨[],x,x3,x5,x6,⟨rfl,rfl⟩,h3,hd,fun _ hy=>(by cases hy),by simp [cN]⟩
 |g::gs,x,ys0,e,x3,x5,x6,h3,hx,hg,hd,he,hl=>by
  rw [zaj] at he hl
  obtain⟨Kg,PL⟩:=hg g zad
  have hc:(cG ps).length≤4:=h.cells
  have ho:(kL ps).length≤2:=h.outs.2
  obtain⟨al,q1,q2,q3,q4⟩:=J4 h hQ hx Kg hd PL .e
  obtain⟨t1,t2⟩:=w6 (L:=kL ps) h (fun p hp=>⟨(zal.mp hp).1,by have:=(zal.mp hp).2;cases p<;>first | rfl | cases this⟩) q2 q3 .e .e
  obtain⟨t3,t4⟩:=w6 (L:=cG ps) h (fun p hp=>⟨(zal.mp hp).1,by have:=(zal.mp hp).2;cases p<;>first | rfl | cases this⟩) q2 q3 .e .e
  have t5:nC (e+8) .hE:=fun v hv=>by
   obtain⟨p,hp,rfl⟩:=zah.mp hv
   rcases t2 p hp with k | k
   ·exact k
   ·rw [(zal.mp hp).2] at k;cases k.2
  have t6:nC (e+8) ((cG ps).map fun p=>p.told .cA):=fun v hv=>by
   obtain⟨p,hp,rfl⟩:=zah.mp hv
   rcases t4 p hp with k | k
   ·exact k
   ·rw [(zal.mp hp).2] at k;cases k.1
  obtain⟨ys,x',y3,y5,y6,g1,g2,g3,g4,g5⟩:=D6 h hQ st gt gs ((cG ps).map fun p=>p.told .cA) .fY (e+8) (.s (((cG ps).map fun p=>p.told .cA).map cm)) .fZ (s .aY) (.inr rfl) (by rw [zaf]) (fun y hy=>⟨(hg y (.aT hy)).1,(hg y (.aT hy)).2.le .e⟩) t6 .e .a5
  have ea:e+8*(g::gs).length=e+8+8*gs.length:=by rw [zaj];omega
  refine⟨.hE::ys,x',y3,y5,y6,⟨valOf al,ys,q1,rfl,g1⟩,g2,by rw [ea];exact g3,by rw [ea];exact zab.mpr ⟨t5.le .e,g4⟩,?_⟩
  have ha:ag (ae 3) (bI 5) (D5 .aA st gt x3 ys0 .fZ x6)=some ([qT x,qT g],D5 .aA st gt (s (qT x)) ys0 .fZ x6):=by rcases h3 with rfl | rfl<;>rfl
  have hB:RJ (D5 .aA st gt x3 ys0 .fZ x6)=some (.nx (D5 .aA st gt (.s (((cG ps).map fun p=>p.told .cA).map cm)) .fY .fZ (s .aY))):=by
   unfold RJ
   rw [aS (cF (τ2:=D5 .aA st gt (s (qT x)) ys0 .fZ (s .aY)) (qa (fo:=ae 0) rfl SM rfl ha q4) rfl)]
   have hf:∀k L,uX k Bt [tx .cr,.tup .b1,.tup ((dm ps).map Pt.obj),.tup ((cG ps).map Pt.obj),.tup ((kL ps).map Pt.obj),.tup .gm]=some (.tup L)->∀x3 ys,aX (dJ [dN] k (ae 0)) (D5 .aA st gt x3 ys .fZ (s .aY))=some (L,D5 .aA st gt x3 ys .fZ (s .aY)):=fun k L hk x3 ys=>by
    unfold aX
    rw [wf hk rfl]
    rfl
   have a1:=ma (i:=4) (τ:=D5 .aA st gt (s (qT x)) ys0 .fZ (s .aY)) (ts:=ys0.map qT) rfl (bX (no:=1) (cap:=[6]) (hf _ _ Ts (s (qT x)) ys0) rfl rfl t1) (bN .fc)
   rw [show (D5 .aA st gt (s (qT x)) ys0 .fZ (s .aY)).set 4 (.s (ys0.map qT++[qT .hE]))=D5 .aA st gt (s (qT x)) .fY .fZ (s .aY) by unfold D5;rw [List.map_append];rfl] at a1
   rw [aS a1]
   exact m9 (hf _ _ LL _ _) rfl rfl t3
  rw [zag,cW rfl hB,g5,zaJ]
  rfl
noncomputable abbrev GS:List T->Option T:=cj 7 3 (gR dN ic dR dz cM cI eW Rk JY Pf ES BM BK BL BO BN)
theorem nC.sm {x:.bC}(h:nC e x)(he:e≤55):∀v∈x,Sm v:=fun v N=>(h v N).sm he .f
theorem pW (h:.d1)(hQ:JJ ps Q){x:.bC}{gs:.ad}(hx:(cG ps).length=x.length)(hg:∀g∈gs,(dm ps).length=g.length/\nC e g)(hd:nC e x)(he:e+8*gs.length≤55):
  ∃ys x',Runs ps x gs ys x'/\nC (e+8*gs.length) x'/\(∀y∈ys,nC (e+8*gs.length) y)/\GS [wT ps Q,qT x,cz gs]=some (.tup [cz ys,qT x']):=by
 have hc:(cG ps).length≤4:=h.cells
 have hi:(dm ps).length≤2:=h.ins.2
 obtain⟨ys,x',y3,y5,y6,g1,g2,g3,g4,g5⟩:=D6 h hQ (qT x) (cz gs) gs x [] e (s (qT x)) none none .bM hx hg hd he .j
 refine⟨ys,x',g1,g3,g4,cu rfl ?_⟩
 show gR dN ic dR dz cM cI eW Rk JY Pf ES BM BK BL BO BN [s .aA,s (qT x),s (cz gs),none,none,none,none]=_
 unfold gR
 unfold RJ at g5
 have hr:=QB (x:=x) (gs:=gs) (n:=(dm ps).length) (hd.sm .e) hx.symm .e (fun g hm=>⟨((hg g hm).2).sm .e,(hg g hm).1.symm⟩) .e .e
 rw [aS (xI (τ':=[s .aA,s (qT x),s (cz gs),none,none,none,none]) (aB _ (OY (aB [.tup ((cG ps).map Pt.obj)] (bJ (wf LL rfl)) (by rw [<- zaf (f:=Pt.obj) (as:=cG ps)];rfl)) (qa (fo:=ae 0) rfl Qd rfl (xO _) (by rw [<- zaf (f:=Pt.obj) (as:=dm ps)];exact Q3)) rfl rfl) hr)),
  aS (cF (τ2:=[s .aA,s (qT x),s (cz gs),s (qT x),none,none,none]) (aB [qT x] .aV rfl) rfl),
  aS (show bK 4 ar [s .aA,s (qT x),s (cz gs),s (qT x),none,none,none]=some (.nx (D5 .aA (qT x) (cz gs) (s (qT x)) [] none none)) from rfl),
  aS (iz (fi:=aX (ae 2)) (ts:=gs.map qT) rfl g5)]
 rcases g2 with rfl | rfl<;>rfl
variable {ps qs:.ap}{r:.bj}{v v':.hh}{x x' g g' y y':.bC}{gs gs' ys ys' hs zs:.ad}
theorem N9 (h:.d1)(a:Gy ps x g v)(b:Gy ps x g v'):∀(k:Nat) (n:.D),r n=k->n∈ps.filterMap Pt.nm->v n=v' n:=by
 intro k
 induction k using Nat.strongRecOn with
 |ind k A =>
  intro n hk hn
  obtain⟨p,hp,en⟩:=zbi.mp hn
  obtain⟨e1,e2⟩:=named en
  rw [<- e1]
  rcases e2 with e2 | e2 | e2
  ·exact List.map_inj_left.mp (a.gi.trans b.gi.symm) p (zal.mpr ⟨hp,e2⟩)
  ·exact List.map_inj_left.mp (a.ce.trans b.ce.symm) p (zal.mpr ⟨hp,e2⟩)
  ·have hi:=zal.mpr ⟨hp,e2⟩
   rw [a.inn p hi,b.inn p hi]
   refine oC fun w L=>?_
   rw [sR e2] at L
   have:=h.rk p hp e2 n en w L
   exact A (r w) .e w rfl (h.ws p hp w L)
theorem Er (h:.d1)(a:Gy ps x g v)(b:Gy ps x g v'){p:Pt}(hp:p∈ps)(hi:p.isIn=false):p.told v=p.told v':=oC fun w L=>N9 h a b _ w rfl (xM h hp hi w L)
theorem Iy {p:Pt}(hp:p∈kL ps):p∈ps/\p.isIn=false:=⟨(zal.mp hp).1,by have:=(zal.mp hp).2;cases p<;>first | rfl | cases this⟩
theorem GL {p:Pt}(hp:p∈cG ps):p∈ps/\p.isIn=false:=⟨(zal.mp hp).1,by have:=(zal.mp hp).2;cases p<;>first | rfl | cases this⟩
theorem Runs.one (h:.d1):∀{gs:.ad} {x:.bC} {ys zs:.ad} {y z:.bC},Runs ps x gs ys y->Runs ps x gs zs z->ys=zs/\y=z
 |[],_,_,_,_,_,a,b=>⟨a.1.trans b.1.symm,a.2.trans b.2.symm⟩
 |g::gs,_,_,_,_,_,⟨v,ys,a1,a2,a3⟩,⟨v',zs,b1,b2,b3⟩=>by
  rw [show (cG ps).map (fun p=>p.told v')=(cG ps).map fun p=>p.told v from zbd fun p hp=>Er h b1 a1 (GL hp).1 (GL hp).2] at b3
  obtain⟨e1,e2⟩:=Runs.one h a3 b3
  refine⟨?_,e2⟩
  rw [a2,b2,e1,show (kL ps).map (fun p=>p.told v')=(kL ps).map fun p=>p.told v from zbd fun p hp=>Er h b1 a1 (Iy hp).1 (Iy hp).2]
def lc (b:Rat)(x y:.bC):List Rat:=(List.zip x y).map fun p=>b*p.1+p.2
def lcs (b:Rat)(xs ys:.ad):List (List Rat):=(List.zip xs ys).map fun p=>lc b p.1 p.2
theorem tq {α:Type}(b:Rat)(f c:α->Rat):∀l:List α,l.map (fun p=>b*f p+c p)=lc b (l.map f) (l.map c)
 |[]=>rfl
 |a::l=>by
  rw [zag,tq b f c l]
  rfl
theorem uA (b:Rat)(p:Pt):p.told (fun w=>b*v w+v' w)=b*p.told v+p.told v':=by
 cases p with
 |gain n q w=>show q*(b*v w+v' w)=b*(q*v w)+q*v' w;grind
 |sum n us =>
  have:∀(us:.dD) (a f:Rat),sums (fun w=>b*v w+v' w) (b*a+f) us=b*sums v a us+sums v' f us:=by
   intro us
   induction us with
   |nil=>intro _ _;rfl
   |cons u us A =>
    intro a f
    show sums (fun w=>b*v w+v' w) (b*a+f+Gn u.1 (b*v u.2+v' u.2)) us=b*sums v (a+Gn u.1 (v u.2)) us+sums v' (f+Gn u.1 (v' u.2)) us
    rw [<- A]
    congr 1
    unfold Gn
    cases u.1<;>simp only [if_true,if_false,Bool.false_eq_true]<;>grind
  have e:=this us 0 0
  rw [show b*0+0=(0:Rat) by grind] at e
  exact e
 |_=>rfl
theorem Gy.lin (b:Rat)(a:Gy ps x g v)(f:Gy ps x' g' v'):Gy ps (lc b x x') (lc b g g') (fun w=>b*v w+v' w):=by
 refine⟨?_,?_,fun p hp=>?_⟩
 ·rw [tq b (fun p:Pt=>v p.nam) (fun p=>v' p.nam),a.gi,f.gi]
 ·rw [tq b (fun p:Pt=>v p.nam) (fun p=>v' p.nam),a.ce,f.ce]
 ·rw [uA,a.inn p hp,f.inn p hp]
theorem Runs.lin (b:Rat):∀{gs gs':.ad} {x x':.bC} {ys ys':.ad} {y y':.bC},gs.length=gs'.length->Runs ps x gs ys y->Runs ps x' gs' ys' y'->Runs ps (lc b x x') (lcs b gs gs') (lcs b ys ys') (lc b y y')
 |[],[],_,_,_,_,_,_,_,a,f=>by
  rw [a.1,a.2,f.1,f.2]
  exact⟨rfl,rfl⟩
 |[],_::_,_,_,_,_,_,_,h,_,_=>by cases h
 |_::_,[],_,_,_,_,_,_,h,_,_=>by cases h
 |g::gs,g'::gs',_,_,_,_,_,_,h,⟨v,ys,a1,a2,a3⟩,⟨v',ys',b1,b2,b3⟩=>by
  have A:=Runs.lin b .an a3 b3
  rw [<- tq b (fun p:Pt=>p.told v) (fun p=>p.told v'),<- zbd fun p _=>uA b p] at A
  refine⟨_,lcs b ys ys',a1.lin b b1,?_,A⟩
  rw [a2,b2,zbd fun p _=>uA b p,tq]
  rfl
theorem Runs.app:∀{gs:.ad} {x:.bC} {ys:.ad} {y:.bC},Runs ps x gs ys y->Runs ps y hs zs y'->Runs ps x (gs++hs) (ys++zs) y'
 |[],_,_,_,a,b=>by rw [a.1,<- a.2];exact b
 |g::gs,_,_,_,⟨v,ys,a1,a2,a3⟩,b=>by
  rw [a2]
  exact⟨v,ys++zs,a1,rfl,Runs.app a3 b⟩
theorem Runs.as (h1:dm ps=dm qs)(h2:cG ps=cG qs)(W:kL ps=kL qs)(N:∀p,p∈bZ qs->p∈bZ ps):∀{gs:.ad} {x:.bC} {ys:.ad} {y:.bC},Runs ps x gs ys y->Runs qs x gs ys y
 |[],_,_,_,a=>a
 |g::gs,_,_,_,⟨v,ys,a1,a2,a3⟩=>⟨v,ys,⟨by rw [<- h1];exact a1.gi,by rw [<- h2];exact a1.ce,fun p hp=>a1.inn p (N p hp)⟩,by rw [<- W];exact a2,by rw [<- h2];exact Runs.as h1 h2 W N a3⟩
def Iv (ps:.ap):List Pt:=(ps.filter Pt.inner).reverse++ps.filter fun p=>!p.inner
theorem AN (ps:.ap):ps.Perm (Iv ps):=((List.filter_append_perm Pt.inner ps).symm).trans ((List.reverse_perm _).symm.append_right _)
theorem pf {f:Pt->Bool}(hf:∀p,f p=true->p.inner=false)(ps:.ap):(Iv ps).filter f=ps.filter f:=by
 unfold Iv
 rw [zba,List.filter_filter,List.filter_eq_nil_iff.mpr,za7]
 ·refine List.filter_congr fun p _=>?_
  cases e:f p with
  |true=>rw [hf p e];rfl
  |false=>rfl
 ·intro p hp q
  rw [List.mem_reverse] at hp
  have:=(zal.mp hp).2
  rw [hf p q] at this
  cases this
theorem Iw (h:Runs ps x gs ys y):Runs (Iv ps) x gs ys y:=
 Runs.as (pf (fun p hp=>by cases p<;>first | rfl | cases hp) ps).symm (pf (fun p hp=>by cases p<;>first | rfl | cases hp) ps).symm (pf (fun p hp=>by cases p<;>first | rfl | cases hp) ps).symm (fun p hp=>zal.mpr ⟨(AN ps).mem_iff.mpr (zal.mp hp).1,(zal.mp hp).2⟩) h
mutual
theorem eqv_refl:∀d:PyData,d.canLay0=true->PyData.eqv d d=true
 | .none,_=>by simp [PyData.eqv]
 | .bool _,_=>by simp [PyData.eqv]
 | .int _,_=>by simp [PyData.eqv]
 | .str _,_=>by simp [PyData.eqv]
 | .list xs,h=>by
  simp only [PyData.canLay0] at h
  simp only [PyData.eqv]
  exact eqvAll_refl xs h
 | .tuple xs,h=>by
  simp only [PyData.canLay0] at h
  simp only [PyData.eqv]
  exact eqvAll_refl xs h
 | .dict _,h=>by simp [PyData.canLay0] at h
theorem eqvAll_refl:∀ds:List PyData,PyData.canLayAll0 ds=true->PyData.eqvAll ds ds=true
 |[],_=>by simp [PyData.eqvAll]
 |d::ds,h=>by
  simp only [PyData.canLayAll0,Bool.and_eq_true] at h
  simp only [PyData.eqvAll,eqv_refl d h.1,eqvAll_refl ds h.2,Bool.and_self]
end
def FU (n:Nat)(t:T):Prop:=∃d,zy t=some d/\d.canLay0=true/\d.depth≤n
theorem yW {n:Nat}:∀{ts:List T},(∀x∈ts,FU n x)->∃ds,qu ts=some ds/\PyData.canLayAll0 ds=true/\PyData.depthAll ds≤n
 |[],_=>⟨[],rfl,rfl,za4 _⟩
 |t::ts,h=>by
  obtain⟨d,h1,h2,W⟩:=h t zad
  obtain⟨ds,g1,g2,g3⟩:=yW fun x hx=>h x (.aT hx)
  refine⟨d::ds,by simp only [qu,h1,g1,Option.bind_some],by simp only [PyData.canLayAll0,h2,g2,Bool.and_self],by simp only [PyData.depthAll];omega⟩
theorem Ed {n:Nat}{ts:List T}(h:∀x∈ts,FU n x):FU (n+1) (.tup ts):=by
 obtain⟨ds,h1,h2,W⟩:=yW h
 exact⟨.tuple ds,by simp only [zy,h1,Option.map_some],by simp only [PyData.canLay0,h2],by simp only [PyData.depth];omega⟩
theorem Ls (i:Int):FU 0 .eA:=⟨.int i,rfl,rfl,zap _⟩
theorem QG (q:Rat):FU 1 (cm q):=Ed fun x hx=>by
 simp only [List.mem_cons,List.not_mem_nil,or_false] at hx
 rcases hx with rfl | rfl<;>exact Ls _
theorem cmp_self {neg:Bool}{t:T}{n:Nat}(h:FU n t)(hn:n≤60):zV neg t t=some (.bl (!neg)):=by
 obtain⟨d,h1,h2,W⟩:=h
 have hs:SeqAt.shaped d=true:=by
  unfold SeqAt.shaped
  rw [h2,zbK]
  exact decide_eq_true .e
 unfold zV
 rw [h1,zaa,zaa,.ap ⟨hs,hs⟩,eqv_refl d h2]
 cases neg<;>rfl
theorem ne_self {f g:FE}{τ:aE}{t:T}{n:Nat}(h:.fB)(h':g τ=some (t,τ))(hs:FU n t)(hn:n≤60):du (au xS f g) τ=some (false,τ):=gg (aQ h h' (cmp_self (neg:=true) hs hn))
theorem eq_self {f g:FE}{τ:aE}{t:T}{n:Nat}(h:.fB)(h':g τ=some (t,τ))(hs:FU n t)(hn:n≤60):au il f g τ=some (.bl true,τ):=aQ h h' (cmp_self (neg:=false) hs hn)
theorem Eb {n:Nat}{ts:List T}(h:∀x∈ts,FU n x):FU (n+1) .dn:=by
 obtain⟨ds,h1,h2,W⟩:=yW h
 exact⟨.list ds,by simp only [zy,h1,Option.map_some],by simp only [PyData.canLay0,h2],by simp only [PyData.depth];omega⟩
theorem rW (x:.bC):FU 2 (qT x):=Eb fun y R=>by
 obtain⟨q,_,rfl⟩:=zah.mp R
 exact QG q
theorem uu (xs:.ad):FU 3 (cz xs):=Eb fun y R=>by
 obtain⟨q,_,rfl⟩:=zah.mp R
 exact rW q
abbrev MM:List T->Option T:=cj 2 1 (iK uO jv)
theorem zO (c:Int):∃v:Rat,Dq 1 v/\MM [.int c]=some (cm v):=by
 have r:=nU
 obtain⟨dg,e1,e2⟩:=kg c (bs:=[199,12]) (by intro x hx;simp only [List.mem_cons,List.not_mem_nil,or_false] at hx;omega) (Nat.le_of_ble_eq_true rfl)
 match dg,e2 with
 |[g,E],e2 =>
  obtain⟨B,g1,_⟩:=e2
  have hb:=xH (a:=(g:Int)-99) (b:=1+(E:Int)) .e
  refine⟨Rat.divInt ((g:Int)-99) (1+(E:Int)),G5 ⟨.e,.e⟩,cu rfl ?_⟩
  show iK uO jv [.e c,none]=_
  unfold iK
  rw [aS (cF (τ2:=[.e c,s (nt [g,E])]) (aB _ (ck rfl (jt (ts:=[.int 199,.int 12]) rfl .c7)) e1) rfl)]
  exact cO (aB _ (ck (t:=.int ((g:Int)-99)) (u:=.int (1+(E:Int))) (aQ (a:=bf g) .dd rfl rfl) (aQ (b:=bf E) rfl .dd eJ)) (Nk .e .e .e))
 |[],e2=>exact e2.elim
 |[_],e2=>exact e2.2.elim
 |_::_::_::_,e2=>exact e2.2.2.elim
abbrev JR:List T->Option T:=cj 3 3 (jY zu MM)
theorem Dj (sc:.eg)(a:Nat){n:Nat}(hn:n≤900):∃x:List Rat,x.length=n/\nC 1 x/\JR [lj sc,bf a,bf n]=some (qT x):=by
 have r:=nU
 have N:∀k:Nat,∃v:Rat,Dq 1 v/\MM [.int (sc.getD (a+k) 0+48271*(k:Int))]=some (cm v):=fun k=>zO _
 refine⟨(List.range n).map fun k=>(N k).choose,.h,fun v hm=>?_,cu rfl (cO (bX (ts:=(List.range n).map fun (i:Nat)=>T.int i) (gy rfl .e) rfl rfl ?_))⟩
 ·obtain⟨k,_,rfl⟩:=zah.mp hm
  exact (N k).choose_spec.1
 ·have e:=bP (φ:=fun k:Nat=>T.int k) (g:=fun k=>cm (N k).choose) (ρ:=[s (lj sc),.j a]) (fe:=ak MM (.ac (.Q (ak zu (.c 1 (au aT (ae 2) (ae 0)))) (au cL (aF 48271) (ae 0))))) rfl (.a4 n) none [] (fun k hk=>by
   have:=zaL.mp hk
   exact aB _ (bJ (aQ (aB _ (ck rfl (.q ib)) (jq sc (a+k))) (.q (kl .e .e)) eJ)) (N k).choose_spec.2) .az
  rw [zaC]
  exact e
theorem KB:2*Kw 111<B:=.c
theorem Sq.nd {e:Nat}{v:Rat}(h:Dq e v):v.num.natAbs≤Kw e/\v.den≤Kw e:=by
 obtain⟨n,h1,h2⟩:=h
 have hp:(0:Int)<(Pw e:Nat):=by have:=Gu e;omega
 have hz:(((Pw e:Nat):Int):Rat)≠0:=fun z=>by have:=zb4.mp (z.trans zbU.symm);omega
 have e1:v=Rat.divInt n (Pw e:Nat):=by rw [zbz];grind
 have g:=xH (a:=n) hp
 rw [<- e1] at g
 have g2:=LU e
 rw [zb7] at g
 rw [Nat.one_mul] at h2
 exact⟨.e,.e⟩
theorem Cp (v:Rat):((v.num:Int):Rat)=v*((v.den:Nat):Int)/\(((v.den:Nat):Int):Rat)≠0:=by
 have e1:=gK v
 rw [zbz] at e1
 have hz:(((v.den:Nat):Int):Rat)≠0:=fun z=>by have:=zb4.mp (z.trans zbU.symm);have:=v.den_nz;omega
 exact⟨by grind,hz⟩
theorem K3 {a b c:Int}{i j k:Nat}(ha:a.natAbs≤Kw i)(hb:b.natAbs≤Kw j)(U:c.natAbs≤Kw k)(h:i+j+k≤111):(a*b).natAbs≤Kw (i+j)/\(a*b*c).natAbs≤Kw 111:=by
 have e1:(a*b).natAbs≤Kw (i+j):=by
  rw [zaZ,show Kw (i+j)=Kw i*Kw j from Nat.pow_add ..]
  exact zb8 ha hb
 refine⟨e1,zaG ?_ (Gs h)⟩
 rw [zaZ,show Kw (i+j+k)=Kw (i+j)*Kw k from Nat.pow_add ..]
 exact zb8 e1 U
abbrev ML:List T->Option T:=cj 4 3 (gT jv)
theorem SQ (v:Rat):br (cm v) (.af 0)=some (.int v.num):=rfl
theorem OM (v:Rat):br (cm v) (.af 1)=some (.af (v.den:Int)):=rfl
theorem MP {e:Nat}{b v w:Rat}(hb:Dq 1 b)(N:Dq e v)(L:Dq e w)(he:e≤55):ML [cm v,cm b,cm w]=some (cm (b*v+w)):=by
 have j:=KB
 have lt:∀{k:Nat},k≤111->∀{z:Int},z.natAbs≤Kw k->z.natAbs<B:=fun hk z hz=>by
  have:=Gs hk
  omega
 have cst:∀{q:Rat} {k:Nat},q.den≤Kw k->((q.den:Nat):Int).natAbs≤Kw k:=fun h=>h
 have a:=N.nd
 have db:=hb.nd
 have c:=L.nd
 obtain⟨a1,a2⟩:=K3 db.1 a.1 (cst c.2) .e
 obtain⟨a3,S⟩:=K3 c.1 (cst db.2) (cst a.2) .e
 obtain⟨g,Z⟩:=K3 (cst db.2) (cst a.2) (cst c.2) .e
 refine .dQ
 show gT jv [.aY v,.aY b,.aY w,none]=_
 unfold gT
 rw [aS (cF (τ2:=[.aY v,.aY b,.aY w,.e (b.num*v.num*(w.den:Nat)+w.num*(b.den:Nat)*(v.den:Nat))]) (aQ (aQ (aQ (.q (SQ _)) (.q (SQ _)) (kl (lt .e db.1) (lt .e a.1))) (.q (OM _)) (kl (lt .e a1) (lt .e (cst c.2)))) (aQ (aQ (.q (SQ _)) (.q (OM _)) (kl (lt .e c.1) (lt .e (cst db.2)))) (.q (OM _)) (kl (lt .e a3) (lt .e (cst a.2)))) eJ) rfl)]
 have hp:(0:Int)<(b.den:Nat)*(v.den:Nat)*(w.den:Nat):=zb2 (zb2 (den_pos b) (den_pos v)) (den_pos w)
 have d:Rat.divInt (b.num*v.num*(w.den:Nat)+w.num*(b.den:Nat)*(v.den:Nat)) ((b.den:Nat)*(v.den:Nat)*(w.den:Nat))=b*v+w:=by
  obtain⟨O,f⟩:=Cp b
  obtain⟨V,R⟩:=Cp v
  obtain⟨i,D⟩:=Cp w
  rw [zbz]
  simp only [Rat.intCast_add,Rat.intCast_mul]
  rw [O,V,i]
  generalize (((b.den:Nat):Int):Rat)=p at *
  generalize (((v.den:Nat):Int):Rat)=q at *
  generalize (((w.den:Nat):Int):Rat)=t at *
  grind
 refine cO (aB _ (ck rfl (aQ (aQ (.q (OM _)) (.q (OM _)) (kl (lt .e (cst db.2)) (lt .e (cst a.2)))) (.q (OM _)) (kl (lt .e g) (lt .e (cst c.2))))) ?_)
 rw [<- d]
 exact Nk .e .e hp
abbrev Pc:List T->Option T:=cj 6 3 (eB ML)
theorem rH {e:Nat}{b:Rat}{xs ys:.ad}(hb:Dq 1 b)(hx:∀x∈xs,nC e x/\x.length≤900)(R:∀y∈ys,nC e y)(he:e≤55)(hl:xs.length≤900):Pc [cz xs,cm b,cz ys]=some (cz (lcs b xs ys)):=by
 have key:∀(l:List (List Rat×List Rat)) (acc:.ad) (B c:.aB),(∀z∈l,nC e z.1/\nC e z.2/\z.1.length≤900)->acc.length+l.length≤900->∃V Z,cN (bS (.a 4 5)) (eQ 3 (bq 2 [1] (hV (.p 4 5)) .bU aI (ak ML (ag (ae 0) (.p 2 1))))) (l.map fun z=>.tup [qT z.1,qT z.2]) [s (cz xs),.aY b,s (cz ys),.o (acc.map qT),B,c]
   = some (.nx [s (cz xs),.aY b,s (cz ys),.o ((acc++l.map fun z=>lc b z.1 z.2).map qT),V,Z]):=by
  intro l
  induction l with
  |nil=>intro acc B c _ _;exact⟨B,c,by simp [cN]⟩
  |cons z l A =>
   intro acc B c hz hl
   rw [zaj] at hl
   obtain⟨h1,h2,W⟩:=hz z zad
   obtain⟨V,Z,e2⟩:=A (acc++[lc b z.1 z.2]) (s (qT z.1)) (s (qT z.2)) (fun y R=>hz y (.aT R)) .a5
   refine⟨V,Z,?_⟩
   have U:bq 2 [1] (hV (.p 4 5)) .bU aI (ak ML (ag (ae 0) (.p 2 1))) .bn=some (qT (lc b z.1 z.2),.bn):=by
    refine bX (ts:=(List.zip z.1 z.2).map fun p=>.tup [cm p.1,cm p.2]) ?_ rfl rfl ?_
    ·unfold hV
     rw [ck (t:=qT z.1) (u:=qT z.2) rfl rfl,zaa]
     show some (jf (z.1.map cm) (z.2.map cm),_)=_
     rw [kq]
    ·have:=kc (φ:=fun p:Rat×Rat=>cm p.1) (ψ:=fun p=>cm p.2) (g:=fun p=>cm (b*p.1+p.2)) (ρ:=[s (cm b)]) (fe:=ak ML (ag (ae 0) (.p 2 1))) rfl (List.zip z.1 z.2) none none [] (fun p hp=>aB _ (qP rfl rfl rfl) (MP hb (h1 _ (zaB hp).1) (h2 _ (zaB hp).2) he)) (by rw [zbw,Nat.zero_add,za1];exact aR .e)
     rw [show (lc b z.1 z.2).map cm=(List.zip z.1 z.2).map fun p=>cm (b*p.1+p.2) by unfold lc;rw [List.map_map];rfl]
     exact this
   have ha:=ma (i:=3) (τ:=.bn) (ts:=acc.map qT) rfl U (bN .fc)
   rw [zag,cW rfl ha,show (.bn:aE).set 3 (.s (acc.map qT++[qT (lc b z.1 z.2)]))=[s (cz xs),.aY b,s (cz ys),.o ((acc++[lc b z.1 z.2]).map qT),s (qT z.1),s (qT z.2)] by rw [zay];rfl,e2,zaJ]
   rfl
 obtain⟨V,Z,e2⟩:=key (List.zip xs ys) [] none none (fun z hz=>⟨(hx _ (zaB hz).1).1,R _ (zaB hz).2,(hx _ (zaB hz).1).2⟩) (by rw [zbw,za1];omega)
 refine .dQ
 show eB ML [s (cz xs),.aY b,s (cz ys),none,none,none]=_
 unfold eB
 rw [aS (show bK 3 ar [s (cz xs),.aY b,s (cz ys),none,none,none]=some (.nx [s (cz xs),.aY b,s (cz ys),.o (([]:List (List Rat)).map qT),none,none]) from rfl),aS (iz (ts:=(List.zip xs ys).map fun z=>.tup [qT z.1,qT z.2]) (by
  unfold hV
  rw [ck (t:=cz xs) (u:=cz ys) rfl rfl,zaa]
  show some (jf (xs.map qT) (ys.map qT),_)=_
  rw [kq]) e2)]
 rfl
theorem HL {e:Nat}{b:Rat}{xs ys:.ad}(hb:Dq 1 b)(hx:∀x∈xs,nC e x)(R:∀y∈ys,nC e y):∀z∈lcs b xs ys,nC (e+2) z:=fun z hz=>by
 obtain⟨p,hp,rfl⟩:=zah.mp hz
 intro v N
 obtain⟨q,hq,rfl⟩:=zah.mp N
 have h1:=hx _ (zaB hp).1 _ (zaB hq).1
 have h2:=R _ (zaB hp).2 _ (zaB hq).2
 have:=Sq.mul hb h1
 rw [zcg] at this
 exact Sq.up (Sq.add this (Dq.le h2 (zbu e))) .f
abbrev OD:List T->Option T:=cj 1 1 qz
noncomputable def Pt.kd:Pt->Nat | .inp _=>0 | .cell _ _=>1 | .out _=>2 | .gain _ _ _=>3 | .sum _ _=>4
theorem Mh (p:Pt):OD [p.law]=some (.af (p.kd:Nat)):=by cases p<;>kernel_rfl
abbrev Rg:List T->Option T:=cj 3 1 (eA OD)
theorem Qe {ps:.ap}(hl:ps.length≤24):Rg [.lst .eP]=some (.al ((Iv ps).map Pt.law)):=by
 have key:∀(f:Pt->Bool) (ft:FT),(∀p,ft [s p.law]=some (f p,[s p.law]))->dM (ai 0) ft (ae 0) .eP [none] []=some ((ps.filter f).map Pt.law):=fun f ft hf =>
  m6 (φ:=Pt.law) (E:=fun p=>[s p.law]) (f:=f) (P:=fun τ=>∃u,τ=[u]) (g:=Pt.law) (fun τ p ⟨u,e⟩=>by rw [e];rfl) (fun p=>⟨_,rfl⟩) (fun p=>rfl) ps [none] [] (fun p _=>hf p) (fun p _ _=>rfl) .al .az
 have k1:=key Pt.inner (du (au zw (.l OD 0) (aF 2))) fun p=>gg (aQ (.am (Mh p)) rfl (by cases p<;>rfl))
 have k2:=key (fun p=>!p.inner) (du (au Fd (.l OD 0) (aF 3))) fun p=>gg (aQ (.am (Mh p)) rfl (by cases p<;>rfl))
 refine .dQ
 show eA OD [s .J,none,none]=_
 unfold eA
 rw [aS (m9 (τ:=[s .J,none,none]) rfl rfl rfl k1)]
 show aH _ _ [s .J,.o .g4,none]=_
 rw [aS (m9 (τ:=[s .J,.o .g4,none]) rfl rfl rfl k2)]
 refine cO (τ':=[s .J,s (.al .g4),s (.al ((ps.filter fun p=>!p.inner).map Pt.law))]) (aQ (a:=.lst ((ps.filter Pt.inner).map Pt.law).reverse) (b:=.lst ((ps.filter fun p=>!p.inner).map Pt.law)) rfl rfl ?_)
 rw [ml (by
  have h1:=zbO Pt.inner ps
  have h2:=zbO (fun p=>!p.inner) ps
  rw [zbZ,zaf,zaf]
  exact aR .e)]
 unfold Iv
 rw [zay,List.map_reverse]
theorem KG {a b:Nat}(ha:a<B)(hb:b<B):cL (bf a) (bf b)=some (.af ((a*b:Nat):Int)):=by
 rw [kl .e .e]
 rfl
theorem QH {f g:FE}{τ:aE}{ts:List T}{c:Nat}(h:f τ=some (.lst ts,τ))(M:g τ=some (bf c,τ))(U:c≤ts.length):qE f cP (cT g) τ=some (.lst (ts.take c),τ):=by
 unfold qE cT cP
 rw [h,zaa]
 dsimp only
 rw [zaa]
 dsimp only
 rw [M,zaa]
 dsimp only
 rw [zaa]
 dsimp only
 rw [GP U]
 rfl
theorem GO {ts:List T}{b:Nat}(h:b≤ts.length):PF .dn (some (b:Nat)) none=some (.al (ts.drop b)):=by
 show some (T.lst (pV ts (some (b:Nat)) none))=_
 unfold pV
 rw [HT.pj,HT.ud,zbp h,List.take_of_length_le (by rw [za2];omega)]
theorem Lw {f g:FE}{τ:aE}{ts:List T}{c:Nat}(h:f τ=some (.lst ts,τ))(M:g τ=some (bf c,τ))(U:c≤ts.length):qE f (cT g) cP τ=some (.lst (ts.drop c),τ):=by
 unfold qE cT cP
 rw [h,zaa]
 dsimp only
 rw [M,zaa]
 dsimp only
 rw [zaa]
 dsimp only
 rw [zaa]
 dsimp only
 rw [GO U]
 rfl
theorem TK {ps Q:.ap}{r:.bj}(h:.d1)(c:OK [tx .cr]=some (Bt,[tx .cr,.tup .b1,.tup ((dm ps).map Pt.obj),.tup ((cG ps).map Pt.obj),.tup ((kL ps).map Pt.obj),.tup .gm])){f:FE}{τ:aE}(hf:f τ=some (.lst .eP,τ)):mj dN OK (.ac (.j O7 f)) τ=some (wT ps Q,τ):=Fv (C:=dN) (bJ (aB _ (bJ hf) (J3 h.ok h.len))) c
theorem wR {ps Q:.ap}{f g k:FE}{τ τ':aE}{x z:.bC}{gs ys:.ad}(hf:f τ=some (wT ps Q,τ))(M:ag g (.ac k) τ=some ([qT x,cz gs],τ'))(e:GS [wT ps Q,qT x,cz gs]=some (.tup [cz ys,qT z])):cv [(dN,GS)] "run" f (.e g k) τ=some (.tup [cz ys,qT z],τ'):=qa (C:=dN) (ns:=Bt) (d:=GS) (qs:=[qT x,cz gs]) hf SK rfl M e
theorem O1 {ps Q:.ap}(hl:(cG ps).length≤900):OG [wT ps Q]=some (.al ((cG ps).map fun p=>tx p.nam)):=by
 refine cu rfl (cO (bX (ts:=(cG ps).map Pt.obj) (τ:=[s .aA]) (by unfold aX;rw [wf LL rfl];rfl) rfl rfl ?_))
 exact bP (φ:=Pt.obj) (g:=fun p=>tx p.nam) (ρ:=[]) rfl (cG ps) none [] (fun p hp=>qb (xv p hp).2 rfl) .az
noncomputable abbrev lE (sc:.eg)(L w:T)(a b t:Nat)(q x:T)(G d l H W c K u:.aB):aE:=[s (lj sc),s L,s w,.j a,.j b,.j t,s q,s x,G,d,l,H,W,c,K,u]
noncomputable def Q8:FS:=(aH (bF 14 (cv [(dN,GS)] "run" (ae 2) (.e (.S 7) (qE (.S 8) cP (cT (ae 13))))))
  (aH (bF 15 (cv [(dN,GS)] "run" (ae 2) (.e (.aX 14) (qE (.S 8) (cT (ae 13)) cP))))
  (dA (Dl (du (au xS (.Q (.S 14) (.S 15)) (.aF 0))) (du (au xS (.aX 15) (.aF 1)))) (bx (fC .U)) bY)))
theorem JQ {ps Q:.ap}{r:.bj}(h:.d1)(hQ:JJ ps Q){x z:.bC}{gs ys:.ad}(hx:(cG ps).length=x.length)(hg:∀g∈gs,(dm ps).length=g.length/\nC 1 g)(hd:nC 1 x)(hl:gs.length≤6)(hr:Runs ps x gs ys z)(sc:.eg)(L q:T)(a b t:Nat)(xs i1:T)(R:T)(x9 x11 x12 x14 x15:.aB){c:Nat}(hc:c≤gs.length):
  ∃y14 y15,Q8 (lE sc L .aA a b t q .gr .er x9 .cB x11 x12 (s (bf c)) x14 x15)=some (.nx (lE sc L .aA a b t q .gr .er x9 .cB x11 x12 (s (bf c)) y14 y15)):=by
 obtain⟨ya,za,r1,d1,d2,e1⟩:=pW h hQ (gs:=gs.take c) hx (fun g hm=>hg g (List.mem_of_mem_take hm)) hd (by rw [zaV];omega)
 rw [zaV,zbp hc] at d1 d2
 have hz:(cG ps).length=za.length:=by
  cases hgs:gs.take c with
  |nil=>rw [hgs] at r1;rw [r1.2];exact hx
  |cons g gt =>
   have:∀{gs:.ad} {x:.bC} {ys:.ad} {y:.bC},Runs ps x gs ys y->(cG ps).length=x.length->(cG ps).length=y.length:=by
    intro gs
    induction gs with
    |nil=>intro x ys y h e;rw [h.2];exact e
    |cons g gs ih =>
     intro x ys y ⟨v,ys',_,_,a3⟩ _
     exact ih a3 (by rw [zaf])
   exact this r1 hx
 obtain⟨yb,zb,r2,_,_,e2⟩:=pW h hQ (x:=za) (gs:=gs.drop c) hz (fun g hm=>⟨(hg g (List.mem_of_mem_drop hm)).1,(hg g (List.mem_of_mem_drop hm)).2.le .e⟩) d1 (by rw [za2];omega)
 have r3:=Runs.app r1 r2
 rw [List.take_append_drop] at r3
 obtain⟨q1,q2⟩:=Runs.one h r3 hr
 refine⟨s (.tup [cz ya,qT za]),s (.tup [cz yb,qT zb]),?_⟩
 unfold Q8
 have ta:(gs.map qT).take c=(gs.take c).map qT:=zbX.symm
 have tb:(gs.map qT).drop c=(gs.drop c).map qT:=List.map_drop.symm
 have s1:=QH (f:=au br (ae 8) (aF 0)) (g:=ae 13) (τ:=lE sc L .aA a b t q .gr .er x9 .cB x11 x12 (s (bf c)) x14 x15) (ts:=gs.map qT) (c:=c) rfl rfl (by rw [zaf];exact hc)
 rw [ta] at s1
 have s2:=Lw (f:=au br (ae 8) (aF 0)) (g:=ae 13) (τ:=lE sc L .aA a b t q .gr .er x9 .cB x11 x12 (s (bf c)) (s (.tup [cz ya,qT za])) x15) (ts:=gs.map qT) (c:=c) rfl rfl (by rw [zaf];exact hc)
 rw [tb] at s2
 rw [aS (cF (τ2:=lE sc L .aA a b t q .gr .er x9 .cB x11 x12 (s (bf c)) (s (.tup [cz ya,qT za])) x15) (wR rfl (ck rfl s1) e1) rfl),
  aS (cF (τ2:=lE sc L .aA a b t q .gr .er x9 .cB x11 x12 (s (bf c)) (s (.tup [cz ya,qT za])) (s (.tup [cz yb,qT zb]))) (wR rfl (ck rfl s2) e2) rfl)]
 have ha:aT (cz ya) (cz yb)=some (cz ys):=by
  rw [<- q1]
  have OJ:∀{gs:.ad} {x:.bC} {ys:.ad} {y:.bC},Runs ps x gs ys y->ys.length=gs.length:=by
   intro gs
   induction gs with
   |nil=>intro x ys y h;rw [h.1]
   |cons g gs ih =>
    intro x ys y ⟨v,ys',_,a2,a3⟩
    rw [a2,zaj,zaj,ih a3]
  have h1:=OJ r1
  have h2:=OJ r2
  rw [zaV] at h1
  rw [za2] at h2
  rw [ml (by rw [zaf,zaf];exact aR .e),<- zay]
 exact fL (qJ (ne_self (.q ha) rfl (uu _) .f) (ne_self rfl (by rw [q2];rfl) (rW _) .f))
theorem Runs.len:∀{gs:.ad} {x:.bC} {ps:.ap} {ys:.ad} {y:.bC},Runs ps x gs ys y->ys.length=gs.length/\∀z∈ys,z.length=(kL ps).length
 |[],_,_,_,_,h=>by
  rw [h.1]
  exact⟨rfl,fun _ hz=>by cases hz⟩
 |g::gs,_,_,_,_,⟨v,ys',_,a2,a3⟩=>by
  obtain⟨h1,h2⟩:=Runs.len a3
  rw [a2]
  exact⟨by rw [zaj,zaj,h1],zab.mpr ⟨by rw [zaf],h2⟩⟩
theorem JL {g:.O}{f:FA}{ρ a:aE}{t:T}(ts:List T)(h1:f ρ=some (ts,a))(h2:g ts=some t):ak g f ρ=some (t,a):=by
 unfold ak
 rw [h1,zaa]
 dsimp only
 rw [h2]
 rfl
abbrev MC:FS:=C8 dN Pa zu O4 O7 MM JR Pc Rg JY OG GS OK
theorem HK {b:Rat}{x y:.bC}(h:x.length=y.length):(lc b x y).length=x.length:=by
 unfold lc
 rw [zaf,za1]
 omega
theorem Ni {b:Rat}{xs ys:.ad}{n:Nat}(hx:∀x∈xs,x.length=n)(R:∀y∈ys,y.length=n):∀z∈lcs b xs ys,z.length=n:=fun z hz=>by
 obtain⟨p,hp,rfl⟩:=zah.mp hz
 rw [HK ((hx _ (zaB hp).1).trans (R _ (zaB hp).2).symm),hx _ (zaB hp).1]
theorem Lu (ys:.ad)(z:.bC):FU 4 (.tup [cz ys,qT z]):=Ed fun x hx=>by
 simp only [List.mem_cons,List.not_mem_nil,or_false] at hx
 rcases hx with rfl | rfl
 ·exact uu ys
 ·obtain⟨d,h1,h2,W⟩:=rW z
  exact⟨d,h1,h2,Nat.le_succ_of_le W⟩
theorem Jv {k:Nat}(h:k∈List.range 2):k=0\/k=1:=by have:=zaL.mp h;omega
theorem HJ (sc:.eg)(hsc:sc.length≤63):cj 16 1 MC [.scr (sc.map T.int)]=some .b4:=by
 have bB:=nU
 obtain⟨nm,a,b,o,m,is,e,hpn,ep⟩:=G1 sc
 have hgp:=hpn.gp
 obtain⟨ps,hperm,el⟩:=J1 (sc.getD 3 0) (ps:=partsOf nm a b o is e) (by have:=hgp.len;omega)
 have hg:=hgp.perm hperm
 generalize Lm nm (a+1+b+m)=r at *
 obtain⟨Q,hQ,ew⟩:=Mr hg
 have hg':=hg.perm (AN ps)
 obtain⟨Q',hQ',ew'⟩:=Mr hg'
 have hl:=hg.len
 have hi:(dm ps).length≤2:=hg.ins.2
 have hc:(cG ps).length≤4:=hg.cells
 have ho:(kL ps).length≤2:=hg.outs.2
 obtain⟨t,et,ht⟩:=ki (sc.getD 14 0) (b:=6) .f
 obtain⟨q,dq,eq⟩:=zO (sc.getD 15 0)
 have hst:∀k:Nat,∃x:List Rat,x.length=(cG ps).length/\nC 1 x/\JR [lj sc,.int ((16+4*k:Nat):Int),.int .eL]=some (qT x):=fun k=>Dj sc _ .e
 have hin:∀k j:Nat,∃x:List Rat,x.length=(dm ps).length/\nC 1 x/\JR [lj sc,.int ((24+20*k+2*j:Nat):Int),.int .eK]=some (qT x):=fun k j=>Dj sc _ .e
 obtain⟨x0,lx0,dx0,ex0⟩:=hst 0
 obtain⟨x1,lx1,dx1,ex1⟩:=hst 1
 let inp:Nat->List (List Rat):=fun k=>(List.range t).map fun j=>(hin k j).choose
 have hinp:∀k,(inp k).length=t/\∀g∈inp k,(dm ps).length=g.length/\nC 1 g:=fun k=>⟨by simp [inp],fun g hm=>by
  obtain⟨j,_,rfl⟩:=zah.mp hm
  exact⟨(hin k j).choose_spec.1.symm,(hin k j).choose_spec.2.1⟩⟩
 obtain⟨lg0,hg0⟩:=hinp 0
 obtain⟨lg1,Kg⟩:=hinp 1
 obtain⟨y0,z0,r0,dz0,dy0,e0⟩:=pW hg hQ lx0.symm hg0 dx0 .e
 obtain⟨y1,z1,r1,dz1,dy1,e1⟩:=pW hg hQ lx1.symm Kg dx1 .e
 have dx2:nC 3 (lc q x0 x1):=HL (xs:=[x0]) (ys:=[x1]) dq (zaU.mpr dx0) (zaU.mpr dx1) _ zad
 have PL:∀g∈lcs q (inp 0) (inp 1),(dm ps).length=g.length/\nC 3 g:=fun g hm=>⟨(Ni (fun x hx=>(hg0 x hx).1.symm) (fun y hy=>(Kg y hy).1.symm) g hm).symm,HL dq (fun x hx=>(hg0 x hx).2) (fun y hy=>(Kg y hy).2) g hm⟩
 have lg2:(lcs q (inp 0) (inp 1)).length≤6:=by
  unfold lcs
  rw [zaf,za1]
  omega
 obtain⟨y2,z2,r2,_,_,e2⟩:=pW hg hQ (x:=lc q x0 x1) (gs:=lcs q (inp 0) (inp 1)) (by rw [HK (lx0.trans lx1.symm),lx0]) PL dx2 .e
 obtain⟨q1,q2⟩:=Runs.one hg r2 (Runs.lin q (lg0.trans lg1.symm) r0 r1)
 subst q1
 subst q2
 obtain⟨y3,z3,r3,_,_,e3⟩:=pW hg' hQ' (x:=x1) (gs:=inp 1) (by rw [show cG (Iv ps)=cG ps from pf (fun p hp=>by cases p<;>first | rfl | cases hp) ps];exact lx1.symm) (by rw [show dm (Iv ps)=dm ps from pf (fun p hp=>by cases p<;>first | rfl | cases hp) ps];exact Kg) dx1 .e
 obtain⟨q3,q4⟩:=Runs.one hg' r3 (Iw r1)
 subst q3
 subst q4
 have s0:=rH (e:=1) (b:=q) (xs:=[x0]) (ys:=[x1]) dq (zaU.mpr ⟨dx0,.e⟩) (zaU.mpr dx1) .f .c7
 have s1:=rH (e:=1) (b:=q) (xs:=inp 0) (ys:=inp 1) dq (fun x hx=>⟨(hg0 x hx).2,by have:=(hg0 x hx).1;omega⟩) (fun y hy=>(Kg y hy).2) .f .e
 have s2:=rH (e:=55) (b:=q) (xs:=y0) (ys:=y3) dq (fun x hx=>⟨(dy0 x hx).le .e,by have:=r0.len.2 x hx;omega⟩) (fun y hy=>(dy1 y hy).le .e) .f (by have:=r0.len.1;omega)
 have lz0:z0.length≤900:=by
  have:∀{gs:.ad} {x:.bC} {ys:.ad} {y:.bC},Runs ps x gs ys y->x.length≤900->y.length≤900:=by
   intro gs
   induction gs with
   |nil=>intro x ys y h e;rw [h.2];exact e
   |cons g gs ih =>
    intro x ys y ⟨v,ys',_,_,a3⟩ _
    exact ih a3 .fc
  exact this r0 .e
 have s3:=rH (e:=55) (b:=q) (xs:=[z0]) (ys:=[z3]) dq (zaU.mpr ⟨dz0.le .e,lz0⟩) (zaU.mpr (dz1.le .e)) .f .c7
 have hwi:JY [wT ps Q]=some (.af .eK):=by
  rw [<- zaf (f:=Pt.obj) (as:=dm ps)]
  exact Q3
 have hwc:=O1 (ps:=ps) (Q:=Q) .e
 have eL:ak O4 (.e (.l Pa 0) (.aa zu (aF 3))) .b5=some (.lst .eP,.b5):=aB _ (ck (.am ep) (aB _ .bv (jq sc 3))) el
 -- the rows of the law,one by one
 have cS:dM (ai 0) aI (.aG JR) ((List.range 2).map fun (i:Nat)=>T.int i) [none,s (lj sc),.e .eL] []=some [qT x0,qT x1]:=
  bP (φ:=fun i:Nat=>T.int i) (g:=fun k=>if k=0 then qT x0 else qT x1) (ρ:=[s (lj sc),.e .eL]) rfl (.a4 2) none [] (fun k hk=>by
   rcases Jv hk with rfl | rfl
   ·exact aB _ (qP rfl (aQ rfl (.q (KG (a:=4) .e .e)) (ib (a:=16))) rfl) ex0
   ·exact aB _ (qP rfl (aQ rfl (.q (KG (a:=4) .e .e)) (ib (a:=16))) rfl) ex1) (by simpa using aR .f)
 let E:List T->Option Sl->aE:=fun ts x=>lE sc .J .aA (dm ps).length (cG ps).length t (cm q) .cN (.s ts) x none none none none none none
 obtain⟨k9,h9⟩:=oH (g:=ai 9) (E:=E) (fb:=eQ 8 (bq 1 [0,9,3] (bQ (bI 5)) (ai 0) aI (ak JR (ag (ae 1) (ag (.Q (au aT (aF 24) (.B 20 2)) (.B 2 0)) (bI 3)))))) (φ:=fun k=>cz (inp k)) (P:=fun k=>k<2) (fun ts x k=>rfl) (fun ts k hk hl=>by
  refine .a8 (bX (no:=1) (cap:=[0,9,3]) (ts:=(List.range t).map fun (i:Nat)=>T.int i) (gy rfl .e) rfl rfl ?_)
  rw [show (inp k).map qT=(List.range t).map fun j=>qT (hin k j).choose by show ((List.range t).map fun j=>(hin k j).choose).map qT=_;rw [zaC];rfl]
  exact bP (φ:=fun i:Nat=>T.int i) (g:=fun j=>qT (hin k j).choose) (ρ:=[s (lj sc),.j k,.e .eK]) rfl (.a4 t) none [] (fun j hj=>by
   have:=zaL.mp hj
   exact aB _ (qP rfl (aQ (aQ rfl (.q (KG (a:=20) .e .e)) (ib (a:=24))) (.q (KG (a:=2) .e .e)) ib) rfl) (hin k j).choose_spec.2.2) .az) (.a4 2) [] none (fun k hk=>List.mem_range.mp hk) .f
 have cR:dM (ai 0) aI (.aK (dN,GS)) ((List.range 2).map fun (i:Nat)=>T.int i) .hj []=some .aJ:=
  bP (φ:=fun i:Nat=>T.int i) (g:=fun k=>if k=0 then .tup [cz y0,qT z0] else .tup [cz y3,qT z3]) (ρ:=[s .aA,s .cN,.am]) rfl (.a4 2) none [] (fun k hk=>by
   rcases Jv hk with rfl | rfl
   ·exact wR rfl .bv e0
   ·exact wR rfl .bv e1) (by simpa using aR .f)
 let F:Option Sl->Option Sl->Option Sl->Option Sl->Option Sl->Option Sl->Option Sl->aE:=fun x8 x10 x11 x12 x13 x14 x15=>lE sc .J .aA (dm ps).length (cG ps).length t (cm q) .cN x8 k9 x10 x11 x12 x13 x14 x15
 have keyC:∀(cs:.D) (x13 x14 x15:.aB),(∀c∈cs,c≤t)->∃y13 y14 y15,cN (ai 13) Q8 (cs.map fun c=>bf c) (F (.am) (s (.al .aJ)) .dx .a9 x13 x14 x15)=some (.nx (F (.am) (s (.al .aJ)) .dx .a9 y13 y14 y15)):=by
  intro cs
  induction cs with
  |nil=>intro x13 x14 x15 _;exact⟨x13,x14,x15,rfl⟩
  |cons c cs ih =>
   intro x13 x14 x15 hc
   obtain⟨u14,u15,f1⟩:=JQ hg hQ lx0.symm hg0 dx0 .e r0 sc .J (cm q) (dm ps).length (cG ps).length t (qT x1) (cz (inp 1)) (.tup [cz y3,qT z3]) k9 .dx .a9 x14 x15 (c:=c) (by rw [lg0];exact hc c zad)
   obtain⟨y13,y14,y15,f2⟩:=ih (s (bf c)) u14 u15 fun d hd=>hc d (.aT hd)
   exact⟨y13,y14,y15,by rw [zag];exact (cW rfl f1).trans f2⟩
 obtain⟨w13,w14,w15,hk⟩:=keyC (.a4 (t+1)) none none none (fun c hc=>by have:=zaL.mp hc;omega)
 unfold Q8 at hk
 refine .dQ
 show MC .b5=_
 unfold MC C8
 rw [aS (cF (τ2:=[s (lj sc),s .J,none,none,none,none,none,none,none,none,none,none,none,none,none,none]) eL rfl),
  aS (cF (τ2:=.bY) (TK hg ew rfl) rfl)]
 have a3:eh (.e (cv [(dN,JY)] "ins" (ae 2) ar) (ak cJ (.ac (cv [(dN,OG)] "cell_names" (ae 2) ar)))) .bY=some (.Y ((dm ps).length:Nat) ((cG ps).length:Nat),.bY):=
  ko (ck (qa (C:=dN) (ns:=Bt) (d:=JY) (qs:=[]) rfl Qd rfl (xO _) hwi) (aB _ (bJ (qa (C:=dN) (ns:=Bt) (d:=OG) (qs:=[]) rfl SH rfl (xO _) hwc)) (by rw [rP,zaf])))
 have h7:bq 1 [0,4] .hC (ai 0) aI (.aG JR) .aN=some (.lst [qT x0,qT x1],.aN):=bX (ts:=(List.range 2).map fun (i:Nat)=>T.int i) rfl rfl rfl cS
 rw [aS (show kh _ (wu (.a 3 4)) _=some (.nx [s (lj sc),s .J,s .aA,.e .eK,.e .eL,none,none,none,none,none,none,none,none,none,none,none]) by unfold kh;rw [a3];rfl),
  aS (cF (τ2:=[s (lj sc),s .J,s .aA,.e .eK,.e .eL,.j t,none,none,none,none,none,none,none,none,none,none]) (aQ (aB _ .bv (jq sc 14)) rfl (by rw [mC .f];exact congrArg (fun z=>some (T.int z)) et)) rfl),
  aS (cF (τ2:=.aN) (aB _ (bJ (aB _ .bv (jq sc 15))) eq) rfl),
  aS (cF (τ2:=lE sc .J .aA (dm ps).length (cG ps).length t (cm q) .cN none none none none none none none none) h7 rfl),
  aS (show bK 8 ar (lE sc .J .aA (dm ps).length (cG ps).length t (cm q) .cN none none none none none none none none)=some (.nx (E [] none)) from rfl),
  aS (iz (fi:=bQ (.ac (aF 2))) (gy (n:=2) rfl .f) h9)]
 have h10:cU 10 1 [2,7,8] .hC (ai 0) aI (.aK (dN,GS)) (E .fu k9)=some (.nx (F (.am) (some (.own .aJ)) none none none none none)):=by
  unfold cU
  rw [show bQ (.ac (aF 2)) (E .fu k9)=some ((List.range 2).map (fun (i:Nat)=>T.int i),E .fu k9) from gy (n:=2) rfl .f,zaa]
  show (if bE .hj=true then (dM _ _ _ _ .hj []).bind _ else none)=_
  rw [if_pos (show bE .hj=true from rfl),cR]
  rfl
 rw [aS h10]
 clear h10 h9 cS cR a3 eL keyC
 rw [aS (cF (t:=qT (lc q x0 x1)) (τ2:=F (.am) (some (.own .aJ)) .dx none none none none) (aQ (aB _ (qP (jt .aV .c7) rfl (jt .aV .c7)) s0) rfl rfl) rfl),
  aS (cF (τ2:=F (.am) (some (.own .aJ)) .dx .a9 none none none) (wR rfl (ck rfl (aB _ (qP rfl rfl rfl) s1)) e2) rfl)]
 have c13:du (au xS (.S 12) (ak Pc (ag (.aF 0) (.e (ae 6) (au br (.aX 10) (aF 0)))))) (F (.am) (some (.own .aJ)) .dx .a9 none none none)=some (false,F (.am) (s (.al .aJ)) .dx .a9 none none none):=
  gg (aQ (a:=cz (lcs q y0 y3)) (b:=cz (lcs q y0 y3)) rfl (JL [cz y0,cm q,cz y3] rfl s2) (cmp_self (neg:=true) (uu _) .f))
 rw [aS (fL c13),aS (fL (ne_self (t:=qT (lc q z0 z3)) rfl (aQ (aB _ (qP (jt .aV .c7) rfl (jt .aV .c7)) s3) rfl rfl) (rW _) .f)),
  aS (iz (fi:=bQ (.ac (.a aT 5 1))) (gy (n:=t+1) .fx .e) hk)]
 exact cO (eq_self (wR (TK hg' ew' (.am (Qe hl))) .bv e3) rfl (Lu _ _) .f)
open PySem PySem.Spec PyProof.Rows L2 TM
theorem gq {α:Type}{us:List α}(h:us.length=1):∃a,us=[a]:=List.length_eq_one_iff.mp h
theorem hZ {α:Type}{us:List α}(h:us.length=2):∃a b,us=[a,b]:=by
 rcases us with _ | ⟨a,us⟩
 ·cases h
 ·obtain⟨b,rfl⟩:=gq (us:=us) .an
  exact⟨a,b,rfl⟩
theorem vh {α:Type}{us:List α}(h:us.length=3):∃a b c,us=[a,b,c]:=by
 rcases us with _ | ⟨a,us⟩
 ·cases h
 ·obtain⟨b,c,rfl⟩:=hZ (us:=us) .an
  exact⟨a,b,c,rfl⟩
theorem P5 {α:Type}{us:List α}(h:us.length=4):∃a b c d,us=[a,b,c,d]:=by
 rcases us with _ | ⟨a,us⟩
 ·cases h
 ·obtain⟨b,c,d,rfl⟩:=vh (us:=us) .an
  exact⟨a,b,c,d,rfl⟩
noncomputable def fo (s:Stmt)(nm p:Str)(pm:Value)(c:Addr):Obj:=⟨.type "function", none,.func (PySem.W.fnOf nm p (kC s) (fw s) (ax s) .none .none .none pm none (.c c) .none),#[]⟩
theorem fk {K:.l}(st:Stmt)(f c:Addr)(nm p:Str)(pm:Value)(l:K.lookup f=some (fo st nm p pm c))(h:PySem.W.codeIn K (.c c) p=true):eP K nm p st f (PySem.W.fnOf nm p (kC st) (fw st) (ax st) .none .none .none pm none (.c c) .none):=MV l h (by unfold PySem.W.keepIn;dsimp only;rw [l];rfl)
noncomputable abbrev O5:List T->Option T:=(cj 16 1 (C8 615 (Pa) (zu) (O4) (O7) (MM) (JR) (Pc) (Rg) (JY) (OG) (GS) (OK)))
set_option maxHeartbeats 0 in
theorem all_mk {w:World}{h:Heap}{mg:.H}{fa:Addr}(X:(kk w.params).In h)(G:h.Ns mainGlobals mg)(hfa:mg "law" = some (.c fa)):
  ∃fd:FuncData,(∀(s:Shared) (v:Value),BindsTo s fd ⟨[v],[]⟩ [(.bV, v)])/\∀base:Heap,(kk w.params).In base->base.Ns mainGlobals mg->iS pg w .m mg base uP 10 fa fd .fO (spT .m 1 O5):=by
 have mq:∀(x:Str) (v:Value),PySem.W.nsIn .m mainGlobals x=some .di->mg x=some v:=fun x v e=>PySem.W.mg_of X G e
 have mn:∀x:Str,PySem.W.nsIn .m mainGlobals x=some none->mg x=none:=fun x e=>PySem.W.mg_none_of X G e
 have e:=hfa.symm.trans (mq "law" (.c 814) .a)
 cases e
 have a0:=fk (K:=kk w.params) mG 708 707 "_law_cell" "_law_cell" kI .a .a
 have b0:=a0.binds (ps:=[.bV,.ef]) fun _ _ _ _ _ _ us hl=>by obtain⟨a,b,rfl⟩:=hZ hl;rfl
 have c0:=mq "_law_cell" (.c 708) .a
 have d0:=fk (K:=kk w.params) jN 715 714 "_law_digits" "_law_digits" kI .a .a
 have e0:=d0.binds (ps:=.ep) fun _ _ _ _ _ _ us hl=>by obtain⟨a,b,rfl⟩:=hZ hl;rfl
 have f0:=mq "_law_digits" (.c 715) .a
 have g0:=fk (K:=kk w.params) kU 722 721 "_law_mixed" "_law_mixed" kI .a .a
 have i0:=g0.binds (ps:=[.ao,.ed]) fun _ _ _ _ _ _ us hl=>by obtain⟨a,b,rfl⟩:=hZ hl;rfl
 have j0:=mq "_law_mixed" (.c 722) .a
 have k0:=fk (K:=kk w.params) kS 727 726 "_law_drawn" "_law_drawn" kI .a .a
 have l0:=k0.binds (ps:=.ep) fun _ _ _ _ _ _ us hl=>by obtain⟨a,b,rfl⟩:=hZ hl;rfl
 have o0:=mq "_law_drawn" (.c 727) .a
 have q0:=fk (K:=kk w.params) kW 732 731 "_law_names" "_law_names" kI .a .a
 have r0:=q0.binds (ps:=[.ao,.ed]) fun _ _ _ _ _ _ us hl=>by obtain⟨a,b,rfl⟩:=hZ hl;rfl
 have s0:=mq "_law_names" (.c 732) .a
 have t0:=fk (K:=kk w.params) mH 739 738 "_law_frac" "_law_frac" kI .a .a
 have u0:=t0.binds (ps:=["_law_top","_law_bottom"]) fun _ _ _ _ _ _ us hl=>by obtain⟨a,b,rfl⟩:=hZ hl;rfl
 have v0:=mq "_law_frac" (.c 739) .a
 have y0:=fk (K:=kk w.params) kT 746 745 "_law_inner" "_law_inner" kI .a .a
 have z0:=y0.binds (ps:=["_law_name",.dH,"_law_some"]) fun _ _ _ _ _ _ us hl=>by obtain⟨a,b,c,rfl⟩:=vh hl;rfl
 have a1:=mq "_law_inner" (.c 746) .a
 have b1:=fk (K:=kk w.params) kX 751 750 "_law_parts" "_law_parts" kI .a .a
 have c1:=b1.binds (ps:=.fO) fun _ _ _ _ _ _ us hl=>by obtain⟨a,rfl⟩:=gq hl;rfl
 have d1:=mq "_law_parts" (.c 751) .a
 have e1:=fk (K:=kk w.params) mJ 756 755 "_law_laid" "_law_laid" kI .a .a
 have f1:=e1.binds (ps:=[.hQ,.ao]) fun _ _ _ _ _ _ us hl=>by obtain⟨a,b,rfl⟩:=hZ hl;rfl
 have g1:=mq "_law_laid" (.c 756) .a
 have i1:=fk (K:=kk w.params) gO 763 762 "_law_frac_text" "_law_frac_text" kI .a .a
 have j1:=i1.binds (ps:=["_law_one"]) fun _ _ _ _ _ _ us hl=>by obtain⟨a,rfl⟩:=gq hl;rfl
 have k1:=mq "_law_frac_text" (.c 763) .a
 have l1:=fk (K:=kk w.params) om 768 767 "_law_row" "_law_row" kI .a .a
 have o1:=l1.binds (ps:=.cG) fun _ _ _ _ _ _ us hl=>by obtain⟨a,rfl⟩:=gq hl;rfl
 have q1:=mq "_law_row" (.c 768) .a
 have r1:=fk (K:=kk w.params) mK 773 772 "_law_text" "_law_text" kI .a .a
 have s1:=r1.binds (ps:=.eq) fun _ _ _ _ _ _ us hl=>by obtain⟨a,rfl⟩:=gq hl;rfl
 have t1:=mq "_law_text" (.c 773) .a
 have u1:=fk (K:=kk w.params) kY 780 779 "_law_value" "_law_value" kI .a .a
 have v1:=u1.binds (ps:=["_law_cell_here"]) fun _ _ _ _ _ _ us hl=>by obtain⟨a,rfl⟩:=gq hl;rfl
 have y1:=mq "_law_value" (.c 780) .a
 have z1:=fk (K:=kk w.params) gN 809 808 "_law_drawn_row" "_law_drawn_row" kI .a .a
 have a2:=z1.binds (ps:=.hq) fun _ _ _ _ _ _ us hl=>by obtain⟨a,b,c,rfl⟩:=vh hl;rfl
 have b2:=mq "_law_drawn_row" (.c 809) .a
 have c2:=fk (K:=kk w.params) jO 787 786 "_law_summed" "_law_summed" kI .a .a
 have d2:=c2.binds (ps:=[.hR,"_law_by",.fU]) fun _ _ _ _ _ _ us hl=>by obtain⟨a,b,c,rfl⟩:=vh hl;rfl
 have e2:=mq "_law_summed" (.c 787) .a
 have f2:=fk (K:=kk w.params) gc 792 791 "_law_rows_summed" "_law_rows_summed" kI .a .a
 have g2:=f2.binds (ps:=.gc) fun _ _ _ _ _ _ us hl=>by obtain⟨a,b,c,rfl⟩:=vh hl;rfl
 have i2:=mq "_law_rows_summed" (.c 792) .a
 have j2:=fk (K:=kk w.params) mI 799 798 "_law_kind" "_law_kind" kI .a .a
 have k2:=j2.binds (ps:=.cG) fun _ _ _ _ _ _ us hl=>by obtain⟨a,rfl⟩:=gq hl;rfl
 have l2:=mq "_law_kind" (.c 799) .a
 have o2:=fk (K:=kk w.params) gb 804 803 "_law_other_order" "_law_other_order" kI .a .a
 have q2:=o2.binds (ps:=.eq) fun _ _ _ _ _ _ us hl=>by obtain⟨a,rfl⟩:=gq hl;rfl
 have r2:=mq "_law_other_order" (.c 804) .a
 have s2:=fk (K:=kk w.params) jL 585 584 "ins" "Wiring.ins" nM .a .a
 have t2:=s2.binds (ps:=.aT) fun _ _ _ _ _ _ us hl=>by obtain⟨a,rfl⟩:=gq hl;rfl
 have u2:=fk (K:=kk w.params) eX 597 596 "cell_names" "Wiring.cell_names" nM .a .a
 have v2:=u2.binds (ps:=.aT) fun _ _ _ _ _ _ us hl=>by obtain⟨a,rfl⟩:=gq hl;rfl
 have y2:=fk (K:=kk w.params) oq 264 263 "is_whole" "is_whole" zx .a .a
 have z2:=y2.binds (ps:=["thing"]) fun _ _ _ _ _ _ us hl=>by obtain⟨a,rfl⟩:=gq hl;rfl
 have a3:=mq "is_whole" (.c 264) .a
 have b3:=fk (K:=kk w.params) N2 228 227 "half" "half" RB .a .a
 have c3:=b3.binds (ps:=.bZ) fun _ _ _ _ _ _ us hl=>by obtain⟨a,b,rfl⟩:=hZ hl;rfl
 have d3:=mq "half" (.c 228) .a
 have e3:=fk (K:=kk w.params) ue 221 220 "common" "common" RB .a .a
 have f3:=e3.binds (ps:=.bZ) fun _ _ _ _ _ _ us hl=>by obtain⟨a,b,rfl⟩:=hZ hl;rfl
 have g3:=mq "common" (.c 221) .a
 have i3:=fk (K:=kk w.params) jP 271 270 "is_fraction" "is_fraction" zx .a .a
 have j3:=i3.binds (ps:=["thing"]) fun _ _ _ _ _ _ us hl=>by obtain⟨a,rfl⟩:=gq hl;rfl
 have k3:=mq "is_fraction" (.c 271) .a
 have l3:=fk (K:=kk w.params) uf 547 546 "is_row" "is_row" TJ .a .a
 have o3:=l3.binds (ps:=["thing","many"]) fun _ _ _ _ _ _ us hl=>by obtain⟨a,b,rfl⟩:=hZ hl;rfl
 have q3:=mq "is_row" (.c 547) .a
 have r3:=fk (K:=kk w.params) lh 552 551 "refuse_run" "refuse_run" md5 .a .a
 have s3:=r3.binds (ps:=.eB) fun _ _ _ _ _ _ us hl=>by obtain⟨a,b,c,d,rfl⟩:=P5 hl;rfl
 have t3:=mq "refuse_run" (.c 552) .a
 have u3:=fk (K:=kk w.params) jJ 346 345 "tells" "Part.tells" nN .a .a
 have v3:=u3.binds (ps:=.ab) fun _ _ _ _ _ _ us hl=>by obtain⟨a,b,rfl⟩:=hZ hl;rfl
 have y3:=fk (K:=kk w.params) mF 381 380 "tells" "In.tells" nN .a .a
 have z3:=y3.binds (ps:=.ab) fun _ _ _ _ _ _ us hl=>by obtain⟨a,b,rfl⟩:=hZ hl;rfl
 have a4:=fk (K:=kk w.params) jF 421 420 "tells" "Cell.tells" nN .a .a
 have b4:=a4.binds (ps:=.ab) fun _ _ _ _ _ _ us hl=>by obtain⟨a,b,rfl⟩:=hZ hl;rfl
 have c4:=fk (K:=kk w.params) yQ 292 291 "times" "times" zx .a .a
 have d4:=c4.binds (ps:=.bZ) fun _ _ _ _ _ _ us hl=>by obtain⟨a,b,rfl⟩:=hZ hl;rfl
 have e4:=mq "times" (.c 292) .a
 have f4:=fk (K:=kk w.params) jH 461 460 "tells" "Gain.tells" nN .a .a
 have g4:=f4.binds (ps:=.ab) fun _ _ _ _ _ _ us hl=>by obtain⟨a,b,rfl⟩:=hZ hl;rfl
 have i4:=fk (K:=kk w.params) CC 278 277 "plus" "plus" zx .a .a
 have j4:=i4.binds (ps:=.bZ) fun _ _ _ _ _ _ us hl=>by obtain⟨a,b,rfl⟩:=hZ hl;rfl
 have k4:=mq "plus" (.c 278) .a
 have l4:=fk (K:=kk w.params) yP 285 284 "minus" "minus" zx .a .a
 have o4:=l4.binds (ps:=.bZ) fun _ _ _ _ _ _ us hl=>by obtain⟨a,b,rfl⟩:=hZ hl;rfl
 have q4:=mq "minus" (.c 285) .a
 have r4:=fk (K:=kk w.params) kQ 497 496 "tells" "Sum.tells" nN .a .a
 have s4:=r4.binds (ps:=.ab) fun _ _ _ _ _ _ us hl=>by obtain⟨a,b,rfl⟩:=hZ hl;rfl
 have t4:=fk (K:=kk w.params) kO 537 536 "tells" "Out.tells" nN .a .a
 have u4:=t4.binds (ps:=.ab) fun _ _ _ _ _ _ us hl=>by obtain⟨a,b,rfl⟩:=hZ hl;rfl
 have v4:=fk (K:=kk w.params) fG 612 611 "values_at" "Wiring.values_at" nM .a .a
 have y4:=v4.binds (ps:=["self","state","given"]) fun _ _ _ _ _ _ us hl=>by obtain⟨a,b,c,rfl⟩:=vh hl;rfl
 have z4:=fk (K:=kk w.params) jM 607 606 "run" "Wiring.run" nM .a .a
 have a5:=z4.binds (ps:=["self","start","inputs"]) fun _ _ _ _ _ _ us hl=>by obtain⟨a,b,c,rfl⟩:=vh hl;rfl
 have b5:=fk (K:=kk w.params) qk 662 661 "is_name" "is_name" nM .a .a
 have c5:=b5.binds (ps:=["word"]) fun _ _ _ _ _ _ us hl=>by obtain⟨a,rfl⟩:=gq hl;rfl
 have d5:=mq "is_name" (.c 662) .a
 have e5:=fk (K:=kk w.params) mL 657 656 "are_names" "are_names" nM .a .a
 have f5:=e5.binds (ps:=["words","many"]) fun _ _ _ _ _ _ us hl=>by obtain⟨a,b,rfl⟩:=hZ hl;rfl
 have g5:=mq "are_names" (.c 657) .a
 have i5:=fk (K:=kk w.params) la 318 317 "is_figures" "is_figures" zx .a .a
 have j5:=i5.binds (ps:=.gQ) fun _ _ _ _ _ _ us hl=>by obtain⟨a,rfl⟩:=gq hl;rfl
 have k5:=mq "is_figures" (.c 318) .a
 have l5:=fk (K:=kk w.params) qj 306 305 "figures" "figures" zx .a .a
 have o5:=l5.binds (ps:=["number"]) fun _ _ _ _ _ _ us hl=>by obtain⟨a,rfl⟩:=gq hl;rfl
 have q5:=mq "figures" (.c 306) .a
 have r5:=fk (K:=kk w.params) mQ 299 298 "show_frac" "show_frac" zx .a .a
 have s5:=r5.binds (ps:=["one"]) fun _ _ _ _ _ _ us hl=>by obtain⟨a,rfl⟩:=gq hl;rfl
 have t5:=mq "show_frac" (.c 299) .a
 have u5:=fk (K:=kk w.params) mM 313 312 "read_frac" "read_frac" zx .a .a
 have v5:=u5.binds (ps:=.gQ) fun _ _ _ _ _ _ us hl=>by obtain⟨a,rfl⟩:=gq hl;rfl
 have y5:=mq "read_frac" (.c 313) .a
 have z5:=fk (K:=kk w.params) jQ 647 646 "read_factor" "read_factor" nM .a .a
 have a6:=z5.binds (ps:=.gQ) fun _ _ _ _ _ _ us hl=>by obtain⟨a,rfl⟩:=gq hl;rfl
 have b6:=mq "read_factor" (.c 647) .a
 have c6:=fk (K:=kk w.params) gM 440 439 "__init__" "Gain.__init__" nN .a .a
 have d6:=c6.binds (ps:=.eN) fun _ _ _ _ _ _ us hl=>by obtain⟨a,b,c,d,rfl⟩:=P5 hl;rfl
 have e6:=fk (K:=kk w.params) mO 640 639 "read_gain" "read_gain" nM .a .a
 have f6:=e6.binds (ps:=["name","number",.cP]) fun _ _ _ _ _ _ us hl=>by obtain⟨a,b,c,rfl⟩:=vh hl;rfl
 have g6:=mq "read_gain" (.c 640) .a
 have i6:=fk (K:=kk w.params) ir 480 479 "__init__" "Sum.__init__" nN .a .a
 have j6:=i6.binds (ps:=.e7) fun _ _ _ _ _ _ us hl=>by obtain⟨a,b,c,rfl⟩:=vh hl;rfl
 have k6:=fk (K:=kk w.params) ou 652 651 "read_sum" "read_sum" nM .a .a
 have l6:=k6.binds (ps:=["name","words"]) fun _ _ _ _ _ _ us hl=>by obtain⟨a,b,rfl⟩:=hZ hl;rfl
 have o6:=mq "read_sum" (.c 652) .a
 have q6:=fk (K:=kk w.params) jc 367 366 "__init__" "In.__init__" nN .a .a
 have r6:=q6.binds (ps:=.fN) fun _ _ _ _ _ _ us hl=>by obtain⟨a,b,rfl⟩:=hZ hl;rfl
 have s6:=fk (K:=kk w.params) gL 400 399 "__init__" "Cell.__init__" nN .a .a
 have t6:=s6.binds (ps:=.gw) fun _ _ _ _ _ _ us hl=>by obtain⟨a,b,c,rfl⟩:=vh hl;rfl
 have u6:=fk (K:=kk w.params) iq 516 515 "__init__" "Out.__init__" nN .a .a
 have v6:=u6.binds (ps:=["self",.cP]) fun _ _ _ _ _ _ us hl=>by obtain⟨a,b,rfl⟩:=hZ hl;rfl
 have y6:=fk (K:=kk w.params) mP 633 632 "read_part" "read_part" nM .a .a
 have z6:=y6.binds (ps:=["row"]) fun _ _ _ _ _ _ us hl=>by obtain⟨a,rfl⟩:=gq hl;rfl
 have a7:=mq "read_part" (.c 633) .a
 have b7:=fk (K:=kk w.params) lg 626 625 "read_parts" "read_parts" nM .a .a
 have c7:=b7.binds (ps:=.gQ) fun _ _ _ _ _ _ us hl=>by obtain⟨a,rfl⟩:=gq hl;rfl
 have d7:=mq "read_parts" (.c 626) .a
 have e7:=fk (K:=kk w.params) jK 339 338 "wants" "Part.wants" nN .a .a
 have f7:=e7.binds (ps:=.aT) fun _ _ _ _ _ _ us hl=>by obtain⟨a,rfl⟩:=gq hl;rfl
 have g7:=fk (K:=kk w.params) jG 414 413 "wants" "Cell.wants" nN .a .a
 have i7:=g7.binds (ps:=.aT) fun _ _ _ _ _ _ us hl=>by obtain⟨a,rfl⟩:=gq hl;rfl
 have j7:=fk (K:=kk w.params) jI 454 453 "wants" "Gain.wants" nN .a .a
 have k7:=j7.binds (ps:=.aT) fun _ _ _ _ _ _ us hl=>by obtain⟨a,rfl⟩:=gq hl;rfl
 have l7:=fk (K:=kk w.params) kR 490 489 "wants" "Sum.wants" nN .a .a
 have o7:=l7.binds (ps:=.aT) fun _ _ _ _ _ _ us hl=>by obtain⟨a,rfl⟩:=gq hl;rfl
 have q7:=fk (K:=kk w.params) kP 530 529 "wants" "Out.wants" nN .a .a
 have r7:=q7.binds (ps:=.aT) fun _ _ _ _ _ _ us hl=>by obtain⟨a,rfl⟩:=gq hl;rfl
 have s7:=fk (K:=kk w.params) jd 669 668 "refuse_names" "refuse_names" nM .a .a
 have t7:=s7.binds (ps:=["parts"]) fun _ _ _ _ _ _ us hl=>by obtain⟨a,rfl⟩:=gq hl;rfl
 have u7:=mq "refuse_names" (.c 669) .a
 have v7:=fk (K:=kk w.params) iu 674 673 "refuse_counts" "refuse_counts" nM .a .a
 have y7:=v7.binds (ps:=["parts"]) fun _ _ _ _ _ _ us hl=>by obtain⟨a,rfl⟩:=gq hl;rfl
 have z7:=mq "refuse_counts" (.c 674) .a
 have a8:=fk (K:=kk w.params) kZ 684 683 "free_names" "free_names" nM .a .a
 have b8:=a8.binds (ps:=["wanted","order"]) fun _ _ _ _ _ _ us hl=>by obtain⟨a,b,rfl⟩:=hZ hl;rfl
 have c8:=mq "free_names" (.c 684) .a
 have d8:=fk (K:=kk w.params) oo 679 678 "in_order" "in_order" nM .a .a
 have e8:=d8.binds (ps:=["parts"]) fun _ _ _ _ _ _ us hl=>by obtain⟨a,rfl⟩:=gq hl;rfl
 have f8:=mq "in_order" (.c 679) .a
 have g8:=fk (K:=kk w.params) fZ 564 563 "__init__" "Wiring.__init__" nM .a .a
 have i8:=g8.binds (ps:=["self","text"]) fun _ _ _ _ _ _ us hl=>by obtain⟨a,b,rfl⟩:=hZ hl;rfl
 have j8:=fk (K:=kk w.params) wU 814 813 "law" "law" kI .a .a
 have k8:=j8.binds (ps:=.fO) fun _ _ _ _ _ _ us hl=>by obtain⟨a,rfl⟩:=gq hl;rfl
 have l8:=mq "law" (.c 814) .a
 have o8:eV .m 615:=.bX
 have q8:=mq "Wiring" (.hL) .a
 have r8:eV .m 384:=.bX
 have s8:=mq "In" (.c 384) .a
 have t8:eV .m 349:=.bX
 have u8:=mq "Part" (.c 349) .a
 have v8:eV .m 424:=.bX
 have y8:=mq "Cell" (.c 424) .a
 have z8:eV .m 464:=.bX
 have a9:=mq "Gain" (.c 464) .a
 have b9:eV .m 500:=.bX
 have c9:=mq "Sum" (.c 500) .a
 have d9:eV .m 540:=.bX
 have e9:=mq "Out" (.c 540) .a
 have f9:=mq "NoFraction" (.c 51) .a
 have g9:=mq "EchoError" (.c 31) .a
 have i9:RT .m 51 [31] (none):=⟨lY.of .a,(.aa ⟨(vE),lY.of .a⟩)⟩
 have j9:By .m 51 [(51,true)]:=⟨⟨.ref 31::vE,none,lY.of .a,.c⟩,(.aa ⟨_,_,i9.cls,.c⟩)⟩
 have k9:∀C∈([615]:List Addr),eV .m C/\bo .m C "in_parts" := (.aa ⟨o8,(by kernel_rfl:PySem.W.findIn .m .hL "in_parts" = some none)⟩)
 have l9:∀C∈([615]:List Addr),eV .m C/\bo .m C "cell_parts" := (.aa ⟨o8,(by kernel_rfl:PySem.W.findIn .m .hL "cell_parts" = some none)⟩)
 have o9:∀C∈([384,424,464,500]:List Addr),eV .m C/\bo .m C "name" := (zab.mpr ⟨⟨r8,(by kernel_rfl:PySem.W.findIn .m (.c 384) "name" = some none)⟩,(zab.mpr ⟨⟨v8,(by kernel_rfl:PySem.W.findIn .m (.c 424) "name" = some none)⟩,(zab.mpr ⟨⟨z8,(by kernel_rfl:PySem.W.findIn .m (.c 464) "name" = some none)⟩,(.aa ⟨b9,(by kernel_rfl:PySem.W.findIn .m (.c 500) "name" = some none)⟩)⟩)⟩)⟩)
 have q9:∀C∈([424,464,540]:List Addr),eV .m C/\bo .m C "source" := (zab.mpr ⟨⟨v8,(by kernel_rfl:PySem.W.findIn .m (.c 424) "source" = some none)⟩,(zab.mpr ⟨⟨z8,(by kernel_rfl:PySem.W.findIn .m (.c 464) "source" = some none)⟩,(.aa ⟨d9,(by kernel_rfl:PySem.W.findIn .m (.c 540) "source" = some none)⟩)⟩)⟩)
 have r9:∀C∈([464]:List Addr),eV .m C/\bo .m C "by" := (.aa ⟨z8,(by kernel_rfl:PySem.W.findIn .m (.c 464) "by" = some none)⟩)
 have s9:∀C∈([500]:List Addr),eV .m C/\bo .m C "terms" := (.aa ⟨b9,(by kernel_rfl:PySem.W.findIn .m (.c 500) "terms" = some none)⟩)
 have t9:∀C∈([615]:List Addr),eV .m C/\bo .m C "inner_parts" := (.aa ⟨o8,(by kernel_rfl:PySem.W.findIn .m .hL "inner_parts" = some none)⟩)
 have u9:∀C∈([615]:List Addr),eV .m C/\bo .m C "out_parts" := (.aa ⟨o8,(by kernel_rfl:PySem.W.findIn .m .hL "out_parts" = some none)⟩)
 have v9:∀a∈([(349,false),(384,false),(424,false),(464,false),(500,false),(540,true),(615,false)]:List .dz),jX .m 540 a.1 a.2:=.I
 have y9:∀a∈([(349,false),(384,true),(424,false),(464,false),(500,false),(540,false),(615,false)]:List .dz),jX .m 384 a.1 a.2:=.I
 have z9:∀a∈([(349,false),(384,false),(424,true),(464,false),(500,false),(540,false),(615,false)]:List .dz),jX .m 424 a.1 a.2:=.I
 have hi2_Gain_Sum:∀a∈([(349,false),(384,false),(424,false),(464,true),(500,true),(540,false),(615,false)]:List .dz),Bv .m 464 500 a.1 a.2:=(zab.mpr ⟨(.aZ ⟨t8,.a,.a,.a,.a,rfl⟩),(zab.mpr ⟨(.aZ ⟨r8,.a,.a,.a,.a,rfl⟩),(zab.mpr ⟨(.aZ ⟨v8,.a,.a,.a,.a,rfl⟩),(zab.mpr ⟨(.aZ ⟨z8,.a,.a,.a,.a,rfl⟩),(zab.mpr ⟨(.aZ ⟨b9,.a,.a,.a,.a,rfl⟩),(zab.mpr ⟨(.aZ ⟨d9,.a,.a,.a,.a,rfl⟩),(.aa (.aZ ⟨o8,.a,.a,.a,.a,rfl⟩))⟩)⟩)⟩)⟩)⟩)⟩)
 have b10:=mn "len" .b2
 have c10:=mn "range" .b2
 have d10:=mn "zip" .b2
 have e10:=mn "int" .b2
 have f10:=mn "abs" .b2
 have g10:=mn "tuple" .b2
 have i10:=mn "str" .b2
 have j10:=mn "list" .b2
 have k10:=mn "reversed" .b2
 have l10:=mn "isinstance" .b2
 have o10:=mn "bool" .b2
 have q10:=mn "all" .b2
 have r10:=mn "divmod" .b2
 have s10:=mn "enumerate" .b2
 have t10:=mn "min" .b2
 have u10:=mq "SHORT" (.ag (4000) 436) .a
 have v10:=mq "MOST_TURNS" (.ag (60) 897) .a
 have y10:=mq "NOUGHT" (.c 257) .a
 have z10:(kk w.params).lookup 257=some .dF:=.a
 have a11:=mq "LONGEST_NAME" (.ag (8) 909) .a
 have b11:=mq "LETTERS" (.str "abcdefghijklmnopqrstuvwxyz" 907) .a
 have c11:=mq "MOST_FIGURES" (.ag (30) 524) .a
 have d11:=mq "GREATEST_TOP" (.ag (99) 913) .a
 have e11:=mq "GREATEST_BOTTOM" (.ag (12) 915) .a
 have f11:=mq "MOST_TERMS" (.ag (4) 911) .a
 have g11:=mq "MOST_ROWS" (.ag (24) 917) .a
 have i11:=mq "MOST_CELLS" (.ag (4) 919) .a
 have j11:=mq "MOST_LINES" (.ag (2) 921) .a
 refine⟨PySem.W.fnOf "law" "law" (kC wU) (fw wU) (ax wU) .none .none .none kI none (.c 813) .none,fun s v=>.of_eq rfl,fun base _ _=>?_⟩
 have k11:Def pg w .m mg base 1 "_law_cell" 2 (zu):=yC a0 b0 c0 b10
 have l11:Def pg w .m mg base 1 "_law_digits" 2 (Q9):=tU d0 e0 f0 
 have o11:Def pg w .m mg base 1 "_law_mixed" 2 (O8):=vw g0 i0 j0 c10
 have q11:Def pg w .m mg base 2 "_law_drawn" 2 (uO):=vq k0 l0 o0 (l11.mono .f) (o11.mono .f) d10 b10
 have r11:Def pg w .m mg base 3 "_law_names" 2 (L1):=vy q0 r0 s0 (q11.mono .f) c10 e10
 have s11:Def pg w .m mg base 1 "_law_frac" 2 (jv):=(yE (P:=pg) (w:=w) (base:=base) (k:=0) B t0 u0 v0 f10).imp Bd
 have t11:Def pg w .m mg base 2 "_law_inner" 3 (OC):=vt y0 z0 a1 (s11.mono .f) b10 g10
 have u11:Def pg w .m mg base 4 "_law_parts" 1 (Pa):=vz b1 c1 d1 (k11.mono .f) (q11.mono .f) (r11.mono .f) (t11.mono .f) c10 b10
 have v11:Def pg w .m mg base 3 "_law_laid" 2 (O4):=yG e1 f1 g1 (q11.mono .f) d10 c10 b10
 have y11:Def pg w .m mg base 1 "_law_frac_text" 1 (Pe):=oZ i1 j1 k1 i10
 have z11:Def pg w .m mg base 2 "_law_row" 1 (O6):=AI l1 o1 q1 (y11.mono .f) e10
 have a12:Def pg w .m mg base 3 "_law_text" 1 (O7):=yH r1 s1 t1 (z11.mono .f) 
 have b12:Def pg w .m mg base 3 "_law_value" 1 (MM):=vA u1 v1 y1 (q11.mono .f) (s11.mono .f) 
 have c12:Def pg w .m mg base 4 "_law_drawn_row" 3 (JR):=oY z1 a2 b2 (k11.mono .f) (b12.mono .f) c10
 have d12:Def pg w .m mg base 2 "_law_summed" 3 (ML):=tV c2 d2 e2 (s11.mono .f) 
 have e12:Def pg w .m mg base 3 "_law_rows_summed" 3 (Pc):=nB f2 g2 i2 (d12.mono .f) d10
 have f12:Def pg w .m mg base 1 "_law_kind" 1 (OD):=yF j2 k2 l2 
 have g12:Def pg w .m mg base 2 "_law_other_order" 1 (Rg):=nA o2 q2 r2 (f12.mono .f) j10 k10
 have i12:dH pg w .m mg base 1 615 "ins" 1 (JY):=rj s2 t2 o8 .b7 k9 b10
 have j12:dH pg w .m mg base 1 615 "cell_names" 1 (OG):=kK u2 v2 o8 .b7 l9 o9 
 have k12:Def pg w .m mg base 1 "is_whole" 1 (Rf):=AK y2 z2 a3 e10 l10 o10
 have l12:Def pg w .m mg base 0 "half" 2 (fun _=>none):=Def.zero b3 c3 d3
 have Cq:Def pg w .m mg base 1 "common" 2 (ju):=(FC (P:=pg) (w:=w) (base:=base) (k:=0) B e3 f3 g3 (l12.mono .f) f10 u10).imp FV
 have q12:Def pg w .m mg base 2 "is_fraction" 1 (L0):=tW i3 j3 k3 (k12.mono .f) (Cq.mono .f) g10 l10 b10
 have r12:Def pg w .m mg base 3 "is_row" 2 (Rc):=FD l3 o3 q3 (q12.mono .f) j10 l10 b10 q10
 have s12:Def pg w .m mg base 4 "refuse_run" 4 (Rk):=vD r3 s3 t3 (r12.mono .f) j10 l10 b10 q10 v10
 have RL:.af 349 (ES):=ri u3 v3 t8 .b7 y10 z10
 have u12:.af 384 (BM):=vp y3 z3 r8 .b7 o9 
 have v12:.af 424 (BK):=qZ a4 b4 v8 .b7 q9 
 have y12:Def pg w .m mg base 2 "times" 2 (RA):=(Il (P:=pg) (w:=w) (base:=base) (k:=1) c4 d4 e4 (Cq.mono .f) ).imp Jf
 have z12:dH pg w .m mg base 3 464 "tells" 2 (BL):=rg f4 g4 z8 .b7 (y12.mono .f) r9 q9 
 have a13:Def pg w .m mg base 2 "plus" 2 (Kv):=(KR (P:=pg) (w:=w) (base:=base) (k:=1) i4 j4 k4 (Cq.mono .f) ).imp Ly
 have b13:Def pg w .m mg base 3 "minus" 2 (OE):=Ik l4 o4 q4 (a13.mono .f) 
 have c13:dH pg w .m mg base 4 500 "tells" 2 (BO):=tP r4 s4 b9 .b7 (a13.mono .f) (b13.mono .f) s9 y10 z10
 have d13:.af 540 (BN):=tM t4 u4 d9 .b7 q9 
 have e13:dH pg w .m mg base 5 615 "values_at" 3 (Pf):=lT v4 y4 o8 .b7 (zab.mpr ⟨RL.mono .f,(zab.mpr ⟨u12.mono .f,(zab.mpr ⟨v12.mono .f,(zab.mpr ⟨z12.mono .f,(zab.mpr ⟨c13.mono .f,(zab.mpr ⟨d13.mono .f,.aa⟩)⟩)⟩)⟩)⟩)⟩) l9 o9 t9 k9 d10
 have f13:dH pg w .m mg base 6 615 "run" 3 (GS):=rl z4 a5 o8 .b7 (s12.mono .f) (zab.mpr ⟨i12.mono .f,.aa⟩) (zab.mpr ⟨e13.mono .f,.aa⟩) (zab.mpr ⟨RL.mono .f,(zab.mpr ⟨u12.mono .f,(zab.mpr ⟨v12.mono .f,(zab.mpr ⟨z12.mono .f,(zab.mpr ⟨c13.mono .f,(zab.mpr ⟨d13.mono .f,.aa⟩)⟩)⟩)⟩)⟩)⟩) l9 u9 b10 j10
 have g13:Def pg w .m mg base 1 "is_name" 1 (O9):=Cv b5 c5 d5 b10 q10 a11 b11
 have i13:Def pg w .m mg base 2 "are_names" 2 (JD):=yI e5 f5 g5 (g13.mono .f) b10 q10
 have j13:Def pg w .m mg base 1 "is_figures" 1 (OB):=vB i5 j5 k5 b10 q10 c11
 have k13:Def pg w .m mg base 1 "figures" 1 (OA):=Cu 3 l5 o5 q5 r10 i10
 have l13:Def pg w .m mg base 2 "show_frac" 1 (Pd):=yM r5 s5 t5 (k13.mono .f) f10
 have o13:Def pg w .m mg base 3 "read_frac" 1 (Pb):=yJ u5 v5 y5 (j13.mono .f) (q12.mono .f) (l13.mono .f) i10 l10 e10
 have q13:Def pg w .m mg base 4 "read_factor" 1 (Ra):=tX z5 a6 b6 (o13.mono .f) j9 f9 f10 d11 e11
 have r13:iT pg w .m mg base 2 "Gain" 464 3 (Rr):=Ij c6 d6 z8 .bX a9 (by kernel_rfl:PySem.W.findIn .m (.c 464) "name" = some none) (by kernel_rfl:PySem.W.findIn .m (.c 464) "by" = some none) (by kernel_rfl:PySem.W.findIn .m (.c 464) "source" = some none) 
 have s13:Def pg w .m mg base 5 "read_gain" 3 (Ri):=yK e6 f6 g6 (q13.mono .f) (i13.mono .f) (r13.mono .f) 
 have t13:iT pg w .m mg base 2 "Sum" 500 2 (Rv):=KQ i6 j6 b9 .bX c9 (by kernel_rfl:PySem.W.findIn .m (.c 500) "name" = some none) (by kernel_rfl:PySem.W.findIn .m (.c 500) "terms" = some none) 
 have u13:Def pg w .m mg base 3 "read_sum" 2 (Rl):=AL k6 l6 o6 (i13.mono .f) (t13.mono .f) g10 b10
 have v13:iT pg w .m mg base 2 "In" 384 1 (Rt):=Nq q6 r6 r8 .bX s8 (by kernel_rfl:PySem.W.findIn .m (.c 384) "name" = some none) 
 have y13:iT pg w .m mg base 2 "Cell" 424 2 (Rp):=Ii s6 t6 v8 .bX y8 (by kernel_rfl:PySem.W.findIn .m (.c 424) "name" = some none) (by kernel_rfl:PySem.W.findIn .m (.c 424) "source" = some none) 
 have z13:iT pg w .m mg base 2 "Out" 540 1 (Ru):=KP u6 v6 d9 .bX e9 (by kernel_rfl:PySem.W.findIn .m (.c 540) "source" = some none) 
 have a14:Def pg w .m mg base 6 "read_part" 1 (OF):=yL y6 z6 a7 (i13.mono .f) (s13.mono .f) (u13.mono .f) (v13.mono .f) (y13.mono .f) (z13.mono .f) b10 f11
 have b14:Def pg w .m mg base 7 "read_parts" 1 (JX):=vC b7 c7 d7 (a14.mono .f) s10
 have c14:.z 384 (xF):=lL e7 f7 r8 .b7 
 have d14:.z 349 (xF):=lL e7 f7 t8 .b7 
 have e14:.z 424 (BP):=rf g7 i7 v8 .b7 q9 
 have f14:.z 464 (BQ):=rh j7 k7 z8 .b7 q9 
 have g14:.z 500 (BS):=tQ l7 o7 b9 .b7 s9 g10
 have i14:.z 540 (BR):=tN q7 r7 d9 .b7 q9 
 have j14:Def pg w .m mg base 2 "refuse_names" 1 (Rj):=rq s7 t7 u7 (zab.mpr ⟨d14.mono .f,(zab.mpr ⟨c14.mono .f,(zab.mpr ⟨e14.mono .f,(zab.mpr ⟨f14.mono .f,(zab.mpr ⟨g14.mono .f,(zab.mpr ⟨i14.mono .f,.aa⟩)⟩)⟩)⟩)⟩)⟩) v9 e9 o9 l10
 have k14:Def pg w .m mg base 1 "refuse_counts" 1 (Rh):=qe v7 y7 z7 y9 z9 v9 y8 s8 e9 l10 b10 g11 i11 j11
 have l14:zA pg w .m mg base 1 "free_names" 2 (LZ):=tR (P:=pg) (w:=w) (base:=base) (k:=0) a8 b8 c8 q10
 have o14:Def pg w .m mg base 2 "in_order" 1 (Rb):=AJ 100 d8 e8 f8 (l14.mono .f) (zab.mpr ⟨d14.mono .f,(zab.mpr ⟨c14.mono .f,(zab.mpr ⟨e14.mono .f,(zab.mpr ⟨f14.mono .f,(zab.mpr ⟨g14.mono .f,(zab.mpr ⟨i14.mono .f,.aa⟩)⟩)⟩)⟩)⟩)⟩) hi2_Gain_Sum a9 c9 o9 l10 t10 b10
 have q14:iT pg w .m mg base 9 "Wiring" 615 1 (OK):=Cr g8 i8 o8 .bX q8 (by kernel_rfl:PySem.W.findIn .m .hL "whole" = some none) (by kernel_rfl:PySem.W.findIn .m .hL "all_parts" = some none) (by kernel_rfl:PySem.W.findIn .m .hL "in_parts" = some none) (by kernel_rfl:PySem.W.findIn .m .hL "cell_parts" = some none) (by kernel_rfl:PySem.W.findIn .m .hL "out_parts" = some none) (by kernel_rfl:PySem.W.findIn .m .hL "inner_parts" = some none) (b14.mono .f) (j14.mono .f) (k14.mono .f) (o14.mono .f) y9 z9 v9 y8 s8 e9 g10 l10
 exact MU (P:=pg) (w:=w) (base:=base) (k:=9) j8 (u11.mono .f) (k11.mono .f) (v11.mono .f) (a12.mono .f) (b12.mono .f) (c12.mono .f) (e12.mono .f) (g12.mono .f) (zab.mpr ⟨i12.mono .f,.aa⟩) (zab.mpr ⟨j12.mono .f,.aa⟩) (zab.mpr ⟨f13.mono .f,.aa⟩) (q14.mono .f) b10 c10
theorem walk {q:.ah}{loose:.V}{XP:.hT}{d:DefRec}(hn:d.name = "law")(hdf:d.params.defaults=[]):PySem.W.WalkO q loose XP hk.says lw.row.toRowW d [] (fun f vs=>PySem.call f vs):=
 L2.Ex (n:=63) (k:=10) (x := "_law_script") (CX:=fun _=>uP) (K:=kk) (sp:=fun w=>spT .m 1 O5) rfl .f hdf ⟨rfl,.f,.f⟩ (fun _ _ Y=>PySem.W.kIn_of Y) (fun w mg fa h KX G e=>all_mk KX G (by rw [hn] at e;exact e))
  (fun w H a ns hl _ hS=>⟨rfl,H,[.scr (ns.map T.int)],.bl true,aW.refl H,⟨_,[],rfl,⟨a,ns.map V.int,rfl,hS,wL ns⟩,rfl⟩,HJ ns hl,fun _ _ v _ r=>r⟩) fun _ _ _ _ _ z=>z
end My
open PySem PySem.W PyProof.Rows
set_option maxHeartbeats 0 in
theorem PySem.Challenge.cw_echohouse_k26_whole_runs_add_and_go_on_holds : PySem.Challenge.rw_echohouse_k26_whole_runs_add_and_go_on.Holds := by
 refine holds_law My.ws fun said=>?_
 refine holds_open (q:=My.qv) (loose:=[]) (Xt:=My.xt) (XP:=XL My.qv []) My.hl (Hook.of My.hk) (Hook.keeps My.hk)
  (fun s e=>xl_of s (zbV.mp e).1) XL.keeps (by rfl) (by rfl) (by rfl)
  (fun s e=>recFacts_of (zbV.mp e).2) (by rfl) said .c ⟨rfl,rfl,rfl,rfl,rfl,.c⟩ ?hw ?hc
 case hw=>w_witness2
 case hc=>exact My.walk rfl rfl

