import PyProof.Rows.All
import Wide.All
import OpenK.AllK
import Wide.FinOn
import HandS.Base
import HandS.Call
import HandS.Ends
import HandS.Words
import HandS.Defaults
import HandS.HeadEnd
import KE.KExcPX
import KE.KExcInit
import KE.KExcIs
import HandS.ForExc
import HandS.ExcInit
import HandS.IsInst
import PyProof.ReprRoads
import HandS.List
import HandS.Dict
import HandS.ForMost
import HandS.Evl
import HandS.Codes
import HandS.HeadHook1
import HandS.Walk
import KE.KStateDown
import HandS.More
import HandS.WordsExc
import HandS.Head0
import HandS.Head1
import HandS.Head2
import HandS.HeadHook2
import PySem.Challenge.RW_pairsums_k01_limits_and_errors
section
set_option Elab.async false
set_option linter.all false
set_option maxRecDepth 100000
set_option maxHeartbeats 4000000
/-! GL: promises of defs that are called where no repr is under way (A.guards = some []). -/
namespace GL
open PySem PySem.Spec PyProof.Rows L2
/-- as FnOk, asked only where no repr is under way -/
structure FnG (P : Program) (w : World) (K : PySem.W.Frag) (mg : Str → Option Value) (base : Heap) (CX : CXT) (k : Nat) (f : Addr) (fd : FuncData) (ps : List Str) (sp : Sp) : Prop where
  len : ∀ vs H Q E, sp vs H Q E → vs.length = ps.length
  run : ∀ (A : Around) (outer : List Env) (s : Shared) (H : Hp) (args : Args) (us : List Value) (vs : List V) (Q : VK) (E : XK), A.guards = some [] → Room k A → Env0 P w K mg base A outer s H →
    BindsTo s fd args (ps.zip us) → Vals vs us → sp vs H Q E → codeAny (model P w) A (.call (.ref f) args) (CR CX outer P w H s Q E) s
section
variable {P : Program} {w : World} {K : PySem.W.Frag} {mg : Str → Option Value} {base : Heap} {CX : CXT} {j k : Nat} {f : Addr} {fd : FuncData} {ps : List Str} {sp sp' : Sp}
theorem FnG.of (F : FnOk P w K mg base CX k f fd ps sp) : FnG P w K mg base CX k f fd ps sp := ⟨F.len, fun A o s H args us vs Q E _ => F.run A o s H args us vs Q E⟩
theorem FnG.up (F : FnG P w K mg base CX j f fd ps sp) (h : j ≤ k) : FnG P w K mg base CX k f fd ps sp := ⟨F.len, fun A o s H args us vs Q E g r => F.run A o s H args us vs Q E g (r.mono h)⟩
theorem FnG.less (F : FnG P w K mg base CX k f fd ps sp) (h : ∀ vs H Q E, sp' vs H Q E → sp vs H Q E) : FnG P w K mg base CX k f fd ps sp' :=
  ⟨fun vs H Q E q => F.len vs H Q E (h _ _ _ _ q), fun A o s H args us vs Q E g r e b v q => F.run A o s H args us vs Q E g r e b v (h _ _ _ _ q)⟩
end
/-- a def by its body -/
theorem FnG.body {CX : CXT} {P : Program} {w : World} {K : PySem.W.Frag} {mg : Str → Option Value} {base : Heap} {k : Nat} {f : Addr} {x qual : Str} {params : Arguments} {body : List Stmt} {scope : Scope} {dvs : List V} {kws : List (Str × V)} {fd : FuncData} {N ps : List Str} {sp : Sp}
    (F : FunD K x qual params body scope dvs kws f fd) (S : FnScope N ps scope) (len : ∀ vs H Q E, sp vs H Q E → vs.length = ps.length)
    (hb : ∀ (cdv : Value) (A : Around) (outer : List Env) (s : Shared) (H : Hp) (vs : List V) (Q : VK) (E : XK), A.guards = some [] → Room k (A.deeper (envOfC qual scope s.heap.objs.size f cdv)) → sp vs H Q E →
      ∃ t, PSs (cxOf CX P w K mg base N qual scope f cdv A outer s H E) body t ∧ t { nx := fun _ H' => Q .non H', rt := Q } (start N vs) H) : FnG P w K mg base CX (k + 1) f fd ps sp := by
  obtain ⟨oc, od, dV, kV, doc, pm, an, cdv, ct, osl, rfl, lk, hcd, _, _⟩ := F.ex
  refine ⟨len, fun A outer s H args us vs Q E hgd hr e0 hbd r hsp => ?_⟩
  have hl := len _ _ _ _ hsp
  have kin : K.In s.heap := e0.mod.kin.keeps fun b o e => (e0.bs b o e).1
  have lim : s.heap.NoLimit := e0.mod.nolimit.keeps fun b o e => (e0.bs b o e).1
  refine codeAny_call_function hr.depth (kin _ _ lk) rfl S.co S.gen rfl (PySem.W.codeRec_of kin hcd) (hbd _ _ _ _ ?_)
  refine wpAny_newFunctionEnv_cells S.kind (fun ⟨n, v⟩ hy => ?_) fun env he s1 x => ?_
  · rcases S.par n (List.of_mem_zip hy).1 with q | q
    · exact .inl q
    · exact .inr ⟨q, PySem.W.cellsFrom_some _ _ _ (.inl q)⟩
  subst he
  refine ⟨lim.keeps x.toInCall.keep, codeAny_func ?_⟩
  obtain ⟨t, ht, hq⟩ := hb cdv A outer s H vs Q E hgd (hr.deeper _) hsp
  have I := inv_start (CX := CX) (E := E) (f := f) (cd := cdv) S hr.hd e0 hl r x
  refine wpAny_mono (ht.run [] s1 (start N vs) H _ I hq) (fun fl s' hs => ?_) fun e s' hs => hs
  cases fl with
  | ret u =>
    obtain ⟨v, σ', H', J, rv, q⟩ := hs
    exact ⟨v, H', J.os, J.bare, J.base, J.hok, rv, q⟩
  | next =>
    obtain ⟨σ', H', J, q⟩ := hs
    exact ⟨.non, H', J.os, J.bare, J.base, J.hok, rfl, q⟩
  | brk =>
    obtain ⟨_, _, _, q⟩ := hs
    exact q.elim
  | cont =>
    obtain ⟨_, _, _, q⟩ := hs
    exact q.elim
section
variable {X : Cx} {CX : CXT} {k : Nat} {f C : Addr} {fd : FuncData} {ps : List Str} {sp : Sp} {dvs : List V} {ds : List Value} {E : XK} {x m : Str} {p pos apos : Pos} {e o : Expr} {es : List Expr} {ta : TE} {t : TA}
theorem run_g {pins : List (Addr × Obj)} {σ : L2.St} {H : Hp} {s : Shared} {Q : VK} {us : List Value} {vs : List V} (g : X.A.guards = some []) (F : FnG X.prog X.w X.K X.mg X.base CX k f fd ps sp) (hr : Room k X.A) (hb : Binds X.K fd ps ds) (hd : Vals dvs ds)
    (hx : Passes CX X E) (I : Inv X pins σ H s) (r : Vals vs us) (h : sp (vs ++ dvs) H Q E) : wpAny (model X.prog X.w) X.A (call (.ref f) us) (EP X pins σ Q) X.xe s := by
  have r2 := r.append hd
  have hl : (us ++ ds).length = ps.length := r2.length.symm.trans (F.len _ _ _ _ h)
  refine wpAny_call (codeAny_mono (F.run X.A X.stack s H ⟨us, []⟩ (us ++ ds) (vs ++ dvs) Q E g hr I.env0 (hb s us I.kIn hl) r2 h) fun r s' hq => ?_)
  cases r with
  | error er => exact hx pins σ H s er s' I hq
  | ok fl => cases fl with
    | ret u => exact I.after hq
    | next => exact False.elim hq
    | brk => exact False.elim hq
    | cont => exact False.elim hq
/-- f(e, ..) -/
theorem pe_g (g : X.A.guards = some []) (F : FnG X.prog X.w X.K X.mg X.base CX k f fd ps sp) (hr : Room k X.A) (hg : Gl X x) (hm : X.mg x = some (.ref f)) (hk : PySem.W.keepIn X.K (.ref f) = true) (hb : Binds X.K fd ps ds) (hd : Vals dvs ds) (hx : Passes CX X E)
    (ha : PA X (e :: es) t) (hdb : (x == ("__debug__" : Str)) = false := by decide) (he : starEach (e :: es) X.env = (false, eval e X.env) :: starEach es X.env := by rfl) (hpl : (backTo pos (starEach es X.env)).any (·.1) = false := by rfl) :
    PE X (.Call (.Name x p) (e :: es) [] pos) (tCall sp dvs E t) :=
  ⟨fun pins s σ H Q I h => wpAny_Call_Name_kw (ld_glob I hg hm (PySem.W.callWith_K (h₀ := X.base) I.ok.mod.kin hk (thn (ha.run pos pins s σ H _ I h) fun us s1 ⟨vs, H1, I1, r, q⟩ => ⟨I1.kIn, run_g g F hr hb hd hx I1 r q⟩) he hpl) hdb)⟩
end
/-- the law's call -/
theorem law_call {P : Program} {w : World} {K : PySem.W.Frag} {mg mb : Str → Option Value} {CX : CXT} {k : Nat} {fa a : Addr} {fd : FuncData} {x : Str} {sp : Sp} {s1 : Shared} {vs : List Value} {ns : List Int}
    (kin : K.In s1.heap) (hns : s1.heap.Ns mainGlobals mg) (hb : s1.heap.Ns builtinsNs mb) (hbb : ∀ x : Str, x ≠ "__name__" → mb x = bootBuiltins x) (hlim : s1.heap.NoLimit) (hg : s1.gens = #[])
    (ha : s1.heap.get? a = some { cls := .type "list", data := .seq vs.toArray }) (hi : IntsAre vs ns) (hl : ns.length ≤ sizeLine) (hr : Room k callerA)
    (F : ∀ base : Heap, K.In base → base.Ns mainGlobals mg → FnG P w K mg base CX k fa fd [x] sp) (hbind : ∀ (s : Shared) (u : Value), BindsTo s fd ⟨[u], []⟩ [(x, u)])
    (hsp : ∀ H : Hp, Only H → SqL K H a (ns.map V.int) → sp [.ref a] H (fun v _ => v = .bl true) fun _ _ _ => False)
    (hCX : ∀ H e s', CX [] H s1 (fun _ _ _ => False) e s' → False) :
    codeAny (model P w) callerA (.call (.ref fa) ⟨[.ref a], []⟩) (fun r s' => r = .ok (.ret (.bool true)) ∧ OldK s1.heap s'.heap ∧ s'.os = s1.os ∧ AllBare s'.gens) s1 := by
  have rv := vals_ints hi
  have core : ∀ H : Hp, Only H → SqL K H a (ns.map V.int) → HOk P w H s1.heap → (∀ b, H b ≠ none → b = a) → (H a ≠ none → K.lookup a = none) →
      codeAny (model P w) callerA (.call (.ref fa) ⟨[.ref a], []⟩) (fun r s' => r = .ok (.ret (.bool true)) ∧ OldK s1.heap s'.heap ∧ s'.os = s1.os ∧ AllBare s'.gens) s1 := by
    intro H hO hS hok only fresh
    have isa : ∀ {b : Addr} {u : HO}, H b = some u → b = a := fun {b u} q => only b (by rw [q]; exact fun z => nomatch z)
    have nodict : ∀ {b : Addr} {o : Obj} {es : Array DictEntry} {ep : Nat}, s1.heap.get? b = some o → o.data = .dict es ep → H b = none := fun {b o es ep} e d => by
      cases q : H b with
      | none => rfl
      | some u =>
        rw [isa q, ha] at e
        cases e
        exact absurd (show Data.seq vs.toArray _ = Data.dict es ep from d) (fun z => nomatch z)
    have nsK : ∀ {b : Addr} {m : Str → Option Value}, s1.heap.Ns b m → (hidT s1.heap H).Ns b m := fun {b m} ⟨o, es, ep, e, d, r⟩ => ⟨o, es, ep, hidT_get e (nodict e d), d, r⟩
    have kinB : K.In (hidT s1.heap H) := fun b o e => hidT_get (kin b o e) (by
      cases q : H b with
      | none => rfl
      | some u =>
        have z := isa q
        subst z
        rw [fresh (by rw [q]; exact fun z => nomatch z)] at e
        cases e)
    have md : Mod K mg (hidT s1.heap H) := ⟨kinB, nsK hns, ⟨mb, nsK hb, hbb⟩, let ⟨mc, h1, h2⟩ := hlim; ⟨mc, nsK h1, h2⟩⟩
    have e0 : Env0 P w K mg (hidT s1.heap H) callerA [] s1 H := ⟨rfl, md, fun b o e => of_hidT e, Nat.le_of_eq (hidT_size _ _), trivial, (fun b z => nomatch (show b ∈ ([] : List Addr) from z)), hok, .of_eq hg⟩
    refine codeAny_mono ((F _ kinB (nsK hns)).run callerA [] s1 H ⟨[.ref a], []⟩ [.ref a] [.ref a] _ _ rfl hr e0 (hbind s1 (.ref a)) (.cons rfl .nil) (hsp H hO hS)) fun r s' h => ?_
    cases r with
    | error er => exact (hCX H er s' h).elim
    | ok fl => cases fl with
    | next => exact False.elim h
    | brk => exact False.elim h
    | cont => exact False.elim h
    | ret u =>
      obtain ⟨v, H', os, bare, un, hok', r', q⟩ := h
      obtain rfl : v = .bl true := q
      obtain rfl : u = Value.bool true := r'
      refine ⟨rfl, OldK.of_keep fun b o e => ?_, os, bare⟩
      cases q : H b with
      | none => exact un.keep b o e q (fun z => nomatch (show b ∈ ([] : List Addr) from z)) (fun z => nomatch (show b ∈ ([] : List Addr) from z))
      | some u =>
        rcases hO b with z | ⟨ob, xs, z⟩
        · rw [q] at z
          cases z
        · obtain ⟨e1, _⟩ := hok b _ z
          obtain ⟨e2, _⟩ := hok' b _ (un.frzs b ob _ z)
          exact (e1.symm.trans e).symm ▸ e2
  cases hk : K.lookup a with
  | some o =>
    have e := kin a o hk
    rw [ha] at e
    cases e
    exact core (fun _ => none) (fun _ => .inl rfl) (.inr ⟨_, vs.toArray, _, hk, rfl, rfl, rfl, by rw [List.size_toArray, hi.length]; exact hl, by simpa using rv⟩) (fun b u z => nomatch (show (none : Option HO) = some u from z)) (fun b z => absurd rfl z) fun z => absurd rfl z
  | none =>
    refine core (fun b => if b = a then some (.frz { cls := .type "list", data := .seq vs.toArray } (.lst (ns.map V.int))) else none) (fun b => ?_) (.inl (.inr ⟨{ cls := .type "list", data := .seq vs.toArray }, if_pos rfl⟩)) (fun b u z => ?_) (fun b z => ?_) fun _ => hk
    · by_cases hb : b = a
      · exact .inr ⟨_, _, if_pos hb⟩
      · exact .inl (if_neg hb)
    · by_cases hb : b = a
      · subst hb
        cases (if_pos rfl).symm.trans z
        exact ⟨ha, by rw [List.length_map]; exact hl, vs, _, rv, ha⟩
      · cases (if_neg hb).symm.trans z
    · by_cases hb : b = a
      · exact hb
      · exact absurd (if_neg hb) z
/-- a law's end over a head by facts -/
theorem walk {l : PySem.W.OpenLaw} {n k : Nat} {q : Program} {loose : List Str} {XP : (Str → Option Value) → Heap → Prop} {YP : World → Heap → Prop} {d : DefRec} {CX : CXT} {x : Str}
    (hn : l.most = some n) (hn2 : n ≤ sizeLine) (hdf : d.params.defaults = []) (hr : Room k callerA)
    (F : ∀ (w : World) (mg : Str → Option Value) (fa : Addr) (h : Heap), YP w h → h.Ns mainGlobals mg → mg d.name = some (.ref fa) →
      ∃ (K : PySem.W.Frag) (fd : FuncData) (sp : Sp), K.In h ∧ (∀ (s : Shared) (u : Value), BindsTo s fd ⟨[u], []⟩ [(x, u)]) ∧
        (∀ (H : Hp) (a : Addr) (ns : List Int), ns.length ≤ n → Only H → SqL K H a (ns.map V.int) → sp [.ref a] H (fun v _ => v = .bl true) fun _ _ _ => False) ∧
        ∀ base : Heap, K.In base → base.Ns mainGlobals mg → FnG l.prog w K mg base CX k fa fd [x] sp)
    (hCX : ∀ (H : Hp) (s : Shared) (e : Value) (s' : Shared), CX [] H s (fun _ _ _ => False) e s' → False) :
    PySem.W.WalkO q loose XP YP l.row.toRowW d [] (fun f vs => PySem.call f vs) := by
  refine Att.attach_call hn hdf fun w s₀ s1 mg mb fa o pm cd doc a vs ns G Y ho hd hcd hmg hobj hints hlen hg => ?_
  obtain ⟨K, fd, sp, kin, hb, hsp, hF⟩ := F w mg fa _ Y G.T.g hmg
  exact law_call kin G.T.g G.T.b G.T.builtins G.T.nolimit hg hobj hints (Nat.le_trans hlen hn2) hr hF hb (fun H hO hS => hsp H a ns hlen hO hS) fun H e s' => hCX H s1 e s'
end GL
end
section
set_option Elab.async false
set_option linter.all false
set_option maxRecDepth 100000
set_option maxHeartbeats 4000000
namespace XV
open PySem
section
variable {M : Model} {prog : Program} {w : World} {A : Around} {E : Value → Shared → Prop} {R : Result → Shared → Prop} {hp : Heap} {gs : Array GenState} {dr : Drawn} {tk : Nat} {os : OsState}
variable {nm qn : Str} {C N : Addr} {bs bm bmB : List Value} {hdct : Bool} {sn : List Str} {sub : List Value} {ab : Bool} {col : Option Bool} {dd : Option Addr} {k0 k1 k2 k3 k5 : Option Value} {B newId initId : String}
theorem check_new_kw (F : ExcBaseFacts B newId initId bmB) (hT : ∀ T : String, bm.contains (.type T) = bmB.contains (.type T)) {us : List Value} {kw : Str} {u : Value} {Q : Unit → Shared → Prop}
    (hC : hp.get? C = some (excClassObj nm qn C N bs bm hdct sn sub ab col dd k0 k1 k2 k3 k5 newId)) (hq : Q () ⟨hp, gs, dr, tk, os⟩) : wpAny M A (checkBuiltinCall newId ⟨.ref C :: us, [(kw, u)]⟩) Q E ⟨hp, gs, dr, tk, os⟩ := by
  have cB : (Value.ref C :: bm).contains (.type B) = true := by rw [List.contains_cons, hT, F.hasB, Bool.or_true]
  have ns := F.noStar
  simp only [checkBuiltinCall, F.newKind, F.newSplit, F.newRow]
  repeat (first | refine wpAny_loadPart_at hC ?_ | (refine wpAny_isSubtype_exc hC ?_; rw [cB]) | refine wpAny_staticBase_exc hC ?_ | refine wpAny_madeBy_exc hC ?_ | simp only [bne_self_eq_false, Bool.false_eq_true, if_false] | wp_step)
  exact hq
theorem new_kw (F : ExcBaseFacts B newId initId bmB) (hT : ∀ T : String, bm.contains (.type T) = bmB.contains (.type T)) {us : List Value} {kw : Str} {u : Value}
    (hC : hp.get? C = some (excClassObj nm qn C N bs bm hdct sn sub ab col dd k0 k1 k2 k3 k5 newId)) (hz : us.length ≤ sizeLine)
    (hq : R (.ok (.ret (.ref (hp.objs.size + 1)))) ⟨(hp.push (W.kdv_tup us)).push (PX.excO C hp.objs.size), gs, dr, tk, os⟩) :
    codeAny (model prog w) A (.builtin newId ⟨.ref C :: us, [(kw, u)]⟩) R ⟨hp, gs, dr, tk, os⟩ := by
  have ends := F.ends
  have cB : (Value.ref C :: bm).contains (.type B) = true := by rw [List.contains_cons, hT, F.hasB, Bool.or_true]
  have cA : (Value.ref C :: bm).contains (.type "AttributeError") = false := by rw [List.contains_cons, hT, F.noAttr]; rfl
  have cN : (Value.ref C :: bm).contains (.type "NameError") = false := by rw [List.contains_cons, hT, F.noName]; rfl
  refine codeAny_builtinAt F.entry ?_
  unfold Builtin.«BaseException.__new__»
  refine wpAt_bind ?_
  show wpAt _ _ _ (stack >>= _) _ _ _
  refine wpAt_bind (wpAt_stack fun p below => wpAt_of_wpAny ?_)
  wp_walk
  refine wpAt_of_wpAny ?_
  rw [F.owner]
  repeat (first | with_reducible refine wpAny_madeHere_exc F.canon hC ?_ | with_reducible refine wpAny_loadPart_at hC ?_ | (with_reducible refine wpAny_isSubtype_exc hC ?_; first | rw [cB] | rw [cA] | rw [cN]) | wp_step)
  show R _ _
  rw [Heap.size_push]
  exact hq
theorem tcall_kw (F : ExcBaseFacts B newId initId bmB) (hT : ∀ T : String, bm.contains (.type T) = bmB.contains (.type T)) {us : List Value} {kw : Str} {u : Value} {fI : Addr} {Q : Fin → Shared → Prop}
    (hC : hp.get? C = some (excClassObj nm qn C N bs bm hdct sn sub ab col dd k0 k1 k2 k3 k5 newId))
    (hi : W.Looks (model prog w) hp (typeLookup (.ref C) "__init__") (some (.ref fI))) (hb : ∀ self, W.Looks (model prog w) hp (bindSpecial (.ref fI) self) (.ref fI, [self])) (hz : us.length ≤ sizeLine)
    (hq : codeAny (model prog w) A (.call (.ref fI) ⟨.ref (hp.objs.size + 1) :: us, [(kw, u)]⟩)
      (fun r s' => match r with | .ok (.ret v) => v = .none ∧ Q (.done (.ret (.ref (hp.objs.size + 1)))) s' | .ok _ => False | .error x => E x s')
      ⟨(hp.push (W.kdv_tup us)).push (PX.excO C hp.objs.size), gs, dr, tk, os⟩) :
    wpAny (model prog w) A (Builtin.«type.__call__» ⟨.ref C :: us, [(kw, u)]⟩) Q E ⟨hp, gs, dr, tk, os⟩ := by
  repeat (first | with_reducible refine wpAny_loadPart_at hC ?_ | with_reducible refine wpAny_madeBy_exc hC ?_ | wp_step)
  refine codeAny_call_builtin_code (Code.quiet_builtin _ F.quiet) (check_new_kw F hT hC ?_)
  refine new_kw F hT hC hz ?_
  show wpAny _ _ _ _ _ _
  have old : ∀ b o, hp.get? b = some o → ((hp.push (W.kdv_tup us)).push (PX.excO C hp.objs.size)).get? b = some o := fun b o e => Heap.get?_push_of_some _ (Heap.get?_push_of_some _ e)
  have hC2 := old _ _ hC
  have new : ((hp.push (W.kdv_tup us)).push (PX.excO C hp.objs.size)).get? (hp.objs.size + 1) = some (PX.excO C hp.objs.size) := by heap_get
  have cC : (Value.ref C :: bm).contains (.ref C) = true := by simp
  have i1 := hi.keeps old
  have b1 := (hb (.ref (hp.objs.size + 1))).keeps old
  unfold isInstance
  repeat (first | with_reducible refine wpAny_loadPart_at new ?_ | (with_reducible refine wpAny_isSubtype_exc hC2 ?_; rw [cC]) | wp_step)
  show wpAny _ _ (typeLookup (.ref C) _) _ _ _
  refine i1.at ?_
  refine wpAny_holding (wpAny_bind (b1.at ?_))
  refine wpAny_bind (wpAny_call (codeAny_mono hq fun r s' z => ?_))
  rcases r with e | (v | _ | _ | _) <;> first | exact z | exact z.elim | skip
  obtain ⟨rfl, z⟩ := z
  first
    | exact wpAny_pure (wpAny_pure z)
    | (wp_walk; exact z)
theorem check_call_kw {us : List Value} {kw : Str} {u : Value} {Q : Unit → Shared → Prop} (hC : hp.get? C = some (excClassObj nm qn C N bs bm hdct sn sub ab col dd k0 k1 k2 k3 k5 newId))
    (hq : Q () ⟨hp, gs, dr, tk, os⟩) : wpAny M A (checkBuiltinCall "type.__call__" ⟨.ref C :: us, [(kw, u)]⟩) Q E ⟨hp, gs, dr, tk, os⟩ := by
  have f3 := tc_sub
  have ty : (⟨hp, gs, dr, tk, os⟩ : Shared).TypeIs (.ref C) "type" := ⟨_, hC, rfl⟩
  simp only [checkBuiltinCall, tc_kind, tc_split]
  repeat (any_goals (first | assumption | with_reducible refine wpAny_loadPart_at hC ?_ | with_reducible refine wpAny_onRaise ?_ | with_reducible refine wpAny_map ?_ | wp_step))
theorem call_kw (F : ExcBaseFacts B newId initId bmB) (hT : ∀ T : String, bm.contains (.type T) = bmB.contains (.type T)) {us : List Value} {kw : Str} {u : Value} {fI : Addr}
    (hC : hp.get? C = some (excClassObj nm qn C N bs bm hdct sn sub ab col dd k0 k1 k2 k3 k5 newId))
    (hi : W.Looks (model prog w) hp (typeLookup (.ref C) "__init__") (some (.ref fI))) (hb : ∀ self, W.Looks (model prog w) hp (bindSpecial (.ref fI) self) (.ref fI, [self])) (hz : us.length ≤ sizeLine)
    (hq : codeAny (model prog w) (A.under (.builtin "type.__call__" ⟨.ref C :: us, [(kw, u)]⟩)) (.call (.ref fI) ⟨.ref (hp.objs.size + 1) :: us, [(kw, u)]⟩) (W.InitBack (hp.objs.size + 1) R)
      ⟨(hp.push (W.kdv_tup us)).push (PX.excO C hp.objs.size), gs, dr, tk, os⟩) :
    codeAny (model prog w) A (.call (.ref C) ⟨us, [(kw, u)]⟩) R ⟨hp, gs, dr, tk, os⟩ := by
  have f1 := tc_lookup
  have f2 := tc_bind (.ref C)
  have ty : (⟨hp, gs, dr, tk, os⟩ : Shared).TypeIs (.ref C) "type" := ⟨_, hC, rfl⟩
  refine codeAny_of_tree ?_
  show wpAny _ _ (callAny (.ref C) _) _ _ _
  repeat (any_goals (first | assumption | with_reducible refine wpAny_loadPart_at hC ?_ | wp_step))
  refine ⟨rfl, ?_⟩
  refine codeAny_call_builtin_at (Code.quiet_builtin _ (by decide +kernel)) entry_typeCall (check_call_kw hC (tcall_kw F hT hC hi hb hz ?_))
  refine codeAny_mono hq fun r s' z => ?_
  rcases r with e | (v | _ | _ | _) <;> exact z
end
end XV
end
section
set_option Elab.async false
set_option linter.all false
set_option maxRecDepth 100000
set_option maxHeartbeats 4000000
namespace XV
open PySem PySem.Spec PyProof.Rows L2
/-- the built-in base -/
inductive Bs | ve | le | ae
def Bs.nm : Bs → String
  | .ve => "ValueError" | .le => "LookupError" | .ae => "ArithmeticError"
def Bs.new : Bs → String
  | .ve => "ValueError.__new__" | .le => "LookupError.__new__" | .ae => "ArithmeticError.__new__"
def Bs.ini : Bs → String
  | .ve => "ValueError.__init__" | .le => "LookupError.__init__" | .ae => "ArithmeticError.__init__"
def Bs.tail : Bs → List Value
  | .ve => [.type "ValueError", .type "Exception", .type "BaseException", .type "object"]
  | .le => [.type "LookupError", .type "Exception", .type "BaseException", .type "object"]
  | .ae => [.type "ArithmeticError", .type "Exception", .type "BaseException", .type "object"]
theorem Bs.base : (b : Bs) → ExcBaseFacts b.nm b.new b.ini b.tail
  | .ve => F.excBase_ValueError
  | .le => F.excBase_LookupError
  | .ae => F.excBase_ArithmeticError
theorem Bs.store : (b : Bs) → PySem.StoreFacts b.nm b.tail "object.__setattr__" "object"
  | .ve => PySem.F.store_ValueError
  | .le => PySem.F.store_LookupError
  | .ae => PySem.F.store_ArithmeticError
def gaB : Value := .builtin "BaseException.__getattribute__"
def saB : Value := .builtin "object.__setattr__"
def clB : Value := .builtin "object.__class__"
def gsB : Value := .builtin "getset_descriptor.__get__"
/-- what the written part says of the class at C -/
structure XC (K : PySem.W.Frag) (C : Addr) (b : Bs) : Prop where
  inn : PySem.W.excInitIn K C b.tail b.new = true
  ov : PySem.W.excOver K C b.tail = true
  sa : PySem.W.findIn K (.ref C) "__setattr__" = some (some saB)
  kC : PySem.W.keepIn K (.ref C) = true
  hd : PySem.W.hasDictIn K C = true
  ga : PySem.W.findIn K (.ref C) "__getattribute__" = some (some gaB)
  gt : PySem.W.findIn K (.ref C) "__getattr__" = some none
  ex : PySem.W.subIn K (.ref C) (.type "BaseException") = some true
  cl : PySem.W.findIn K (.ref C) "__class__" = some (some clB)
  sp : PySem.W.specialIn K clB "__get__" = some (some gsB)
  tk : PySem.W.takesIn K clB = some true
  ob : PySem.W.mroIn K C (.type "object") = some true
def eqb (a b : Option (Option Value)) : Bool := decide (a = b)
def eqo (a b : Option Bool) : Bool := decide (a = b)
/-- the same as one look -/
def xcB (K : PySem.W.Frag) (C : Addr) (b : Bs) : Bool :=
  PySem.W.excInitIn K C b.tail b.new && (PySem.W.excOver K C b.tail && (eqb (PySem.W.findIn K (.ref C) "__setattr__") (some (some saB)) && (PySem.W.keepIn K (.ref C) && (PySem.W.hasDictIn K C &&
    (eqb (PySem.W.findIn K (.ref C) "__getattribute__") (some (some gaB)) && (eqb (PySem.W.findIn K (.ref C) "__getattr__") (some none) && (eqo (PySem.W.subIn K (.ref C) (.type "BaseException")) (some true) &&
    (eqb (PySem.W.findIn K (.ref C) "__class__") (some (some clB)) && (eqb (PySem.W.specialIn K clB "__get__") (some (some gsB)) && (eqo (PySem.W.takesIn K clB) (some true) && eqo (PySem.W.mroIn K C (.type "object")) (some true)))))))))))
theorem two {a b : Bool} (h : (a && b) = true) : a = true ∧ b = true := Bool.and_eq_true_iff.mp h
theorem xc_of {K : PySem.W.Frag} {C : Addr} {b : Bs} (h : xcB K C b = true) : XC K C b := by
  obtain ⟨h1, h⟩ := two h
  obtain ⟨h2, h⟩ := two h
  obtain ⟨h3, h⟩ := two h
  obtain ⟨h4, h⟩ := two h
  obtain ⟨h5, h⟩ := two h
  obtain ⟨h6, h⟩ := two h
  obtain ⟨h7, h⟩ := two h
  obtain ⟨h8, h⟩ := two h
  obtain ⟨h9, h⟩ := two h
  obtain ⟨h10, h⟩ := two h
  obtain ⟨h11, h12⟩ := two h
  exact ⟨h1, h2, of_decide_eq_true h3, h4, h5, of_decide_eq_true h6, of_decide_eq_true h7, of_decide_eq_true h8, of_decide_eq_true h9, of_decide_eq_true h10, of_decide_eq_true h11, of_decide_eq_true h12⟩

/-! ### the first field stored -/
section
open Builtin Builtin.ObjectAttr
variable {prog : Program} {w : World} {A : Around} {R : Result → Shared → Prop} {hp : Heap} {gs : Array GenState} {dr : Drawn} {t : Nat} {os : OsState} {K : PySem.W.Frag} {x C : Addr} {fv : Array Value} {b : Bs} {f : Str} {tk : Tok} {u : Value}
theorem xosa (T : XC K C b) (kin : K.In hp) (hx : hp.get? x = some { cls := .ref C, data := .fields fv }) (hno : PySem.W.findIn K (.ref C) f = some none)
    (hq : ∀ h' tk' dx, (∀ c o, c ≠ x → hp.get? c = some o → h'.get? c = some o) → hp.objs.size ≤ dx → dx ≠ x → h'.get? x = some { cls := .ref C, dict := some dx, data := .fields fv } →
      h'.Ns1 dx (fun y => if y = f then some u else none) → R (.ok (.ret .none)) ⟨h', gs, dr, tk', os⟩) :
    codeAny (model prog w) A (.call (.builtin "object.__setattr__") ⟨[.ref x, .str f tk, u], []⟩) R ⟨hp, gs, dr, t, os⟩ := by
  have I : PySem.W.InstAt hp x { cls := .ref C, data := .fields fv } C none := ⟨hx, rfl, rfl, trivial⟩
  have ht : PySem.W.takerIn K C f = some none := by unfold PySem.W.takerIn; rw [hno]; rfl
  have away : x ≠ hp.objs.size := Nat.ne_of_lt (Heap.lt_size hx)
  refine PySem.W.osa_openX b.store kin I T.ov ht fun bb => ?_
  obtain ⟨cd, hc, hdict⟩ := PySem.W.any_some T.hd
  have lc : PySem.W.Looks (model prog w) hp (classData C) cd := PySem.W.looks_clsIn kin hc
  have hdict' : cd.hasDict = true := hdict
  obtain ⟨nm, bs, mro, ns, qn, hd, sn, sb, ab, col, del⟩ := cd
  dsimp only at hdict'
  subst hdict'
  unfold storeInOwnDict ownDictForStores
  repeat (first | with_reducible refine PX.store_in_new ?_ ?_ | with_reducible refine wpAny_loadPart_at hx ?_ | with_reducible refine lc.at ?_ | wp_step)
  · exact ⟨_, #[], _, (Heap.get?_update_ne _ _ _ _ away.symm).trans (Heap.get?_push_at rfl rfl), rfl, fun e he => absurd he (by simp), fun _ => rfl⟩
  · intro h' tk' hn' hs
    have hx1 : (hp.push { cls := .type "dict", data := .dict #[] }).get? x = some { cls := .ref C, data := .fields fv } := Heap.get?_push_of_some _ hx
    refine hq h' tk' hp.objs.size (fun c o hc ho => ?_) (Nat.le_refl _) away.symm ?_ hn'
    · exact (hs.2 c (Nat.ne_of_lt (Heap.lt_size ho))).trans ((Heap.get?_update_ne _ _ _ _ hc).trans (Heap.get?_push_of_some _ ho))
    · exact (hs.2 x away).trans (Heap.get?_update_self _ hx1 rfl)
end

/-! ### over the abstract heap -/
/-- an exception of the class at C stands at a, its one field f holds v -/
def XvAt (H : Hp) (a C : Addr) (f : Str) (v : V) : Prop := ∃ d, H a = some (exo a C (some d)) ∧ H d = some (exd d [(f, v)])
theorem XvAt.on {H H' : Hp} {a C : Addr} {f : Str} {v : V} (x : XvAt H a C f v) (s : Same H H') : XvAt H' a C f v := by
  obtain ⟨d, h1, h2⟩ := x
  exact ⟨d, s _ _ h1, s _ _ h2⟩
/-- .. with or without fields -/
def XnAt (H : Hp) (a C : Addr) : Prop := ∃ d, H a = some (exo a C d) ∧ ∀ dx, d = some dx → ∃ fs, H dx = some (exd dx fs)
theorem XvAt.any {H : Hp} {a C : Addr} {f : Str} {v : V} (x : XvAt H a C f v) : XnAt H a C := by
  obtain ⟨d, h1, h2⟩ := x
  exact ⟨some d, h1, fun dx e => by cases e; exact ⟨_, h2⟩⟩
theorem XnAt.on {H H' : Hp} {a C : Addr} (x : XnAt H a C) (s : Same H H') : XnAt H' a C := by
  obtain ⟨d, h1, h2⟩ := x
  exact ⟨d, s _ _ h1, fun dx e => by obtain ⟨fs, h⟩ := h2 dx e; exact ⟨fs, s _ _ h⟩⟩
section
variable {X : Cx} {pins : List (Addr × Obj)} {σ : L2.St} {H : Hp} {s : Shared} {a C : Addr} {b : Bs} {f : Str} {y : V} {u : Value} {A : Around}
theorem Inv.xset {Q : Unit → Shared → Prop} {E : Value → Shared → Prop} (T : XC X.K C b) (I : Inv X pins σ H s) (e : H a = some (exo a C none)) (hno : PySem.W.findIn X.K (.ref C) f = some none) (ry : RelV y u)
    (h : ∀ dx s', H dx = none → dx ≠ a → Inv X pins σ (upd (upd H dx (exd dx [(f, y)])) a (exo a C (some dx))) s' → Q () s') : wpAny (model X.prog X.w) A (setAttr (.ref a) f u) Q E s := by
  obtain ⟨t1, ho⟩ := exo_at I.hok e
  obtain ⟨hp, g, d, t, os⟩ := s
  refine PySem.W.set_plain I.kIn (ox := { cls := .ref C, dict := none, data := .fields #[.ref t1, .none, .none, .none, .bool false, .none] }) (od := none) ⟨ho, rfl, rfl, trivial⟩ T.sa ?_
  refine xosa T I.kIn ho hno fun h' tk' dx k dn dne hx hn => ?_
  have free : H dx = none := I.hok.fresh dn
  have old : ∀ {c : Addr} {o : Obj}, hp.get? c = some o → c ≠ dx := fun {c o} q => Nat.ne_of_lt (Nat.lt_of_lt_of_le (Heap.lt_size q) dn)
  have away : ∀ {c : Addr}, H c = none → c ≠ a := fun {c} n z => by
    rw [z, e] at n
    cases n
  have U : Un X.fs [] H (upd (upd H dx (exd dx [(f, y)])) a (exo a C (some dx))) hp h' := {
    keep := fun c o q n _ _ => k c o (away n) q
    slot := fun c o q n _ _ => ⟨o.slots, k c o (away n) q⟩
    free := fun c o q n _ => by rw [upd_ne (away n), upd_ne (old q)]; exact n
    there := fun c o q _ => by
      by_cases hc : c = a
      · rw [hc]; exact ⟨_, hx⟩
      · exact ⟨o, k c o hc q⟩
    tups := fun c xs q => by rw [upd_ne (at_ne e q exo_tup), upd_ne (ne_of_none q free)]; exact q
    frzs := fun c o v q => by rw [upd_ne (at_ne e q exo_frz), upd_ne (ne_of_none q free)]; exact q
    tbls := fun c ps q => ⟨#[], by rw [upd_ne (at_ne e q exo_tbl), upd_ne (ne_of_none q free), q]; simp⟩ }
  refine h dx _ free dne (I.un (t' := tk') U fun c o q => ?_)
  by_cases hc : c = a
  · subst hc
    rw [upd_same] at q
    cases q
    exact exo_ok hx
  · rw [upd_ne hc] at q
    by_cases hd : c = dx
    · subst hd
      rw [upd_same] at q
      cases q
      exact exd_ok hn (relO_put (fs := []) ry fun g => True.intro)
    · rw [upd_ne hd] at q
      refine (I.hok c o q).stay (fun c' v hc' z => k c' v ?_ z) (fun c' z => ?_) fun c' xs z => ?_
      · rcases hc' with z' | z'
        · rw [z']; exact hc
        · exact at_ne e z' exo_own
      · rw [upd_ne (at_ne e z exo_own), upd_ne (ne_of_none z free)]; exact z
      · rw [upd_ne (at_ne e z exo_tup), upd_ne (ne_of_none z free)]; exact z
end
/-- self.f = e in an exception's __init__ -/
def tXst (K : PySem.W.Frag) (f : Str) (to te : TE) : TS := fun D σ H => te σ H fun y H1 => to σ H1 fun x H2 => ∃ (a C : Addr) (b : Bs), x = .ref a ∧ XC K C b ∧ PySem.W.findIn K (.ref C) f = some none ∧ H2 a = some (exo a C none) ∧
  ∀ dx, H2 dx = none → dx ≠ a → D.nx σ (upd (upd H2 dx (exd dx [(f, y)])) a (exo a C (some dx)))
theorem ps_xst {X : Cx} {o e : Expr} {to te : TE} {f : Str} {p' pos : Pos} (ho : PE X o to) (he : PE X e te) (hs : swapsWith e (some (.Attribute o f p')) pos.line X.env = pure false := by rfl) : PS X (.Assign [.Attribute o f p'] e pos) (tXst X.K f to te) := by
  refine ⟨fun pins s σ H D I h => ?_⟩
  refine plainObj_wpAny_Assign_Attribute (thn (he.run pins s σ H _ I h) fun v s1 ⟨y, H1, I1, r1, q1⟩ => thn (ho.run pins s1 σ H1 _ I1 q1) fun u s2 ⟨x, H2, I2, r2, a, C, b, ex, T, hno, ea, q⟩ => ?_) hs
  subst ex
  obtain rfl : u = Value.ref a := r2
  exact Inv.xset T I2 ea hno r1 fun dx s' n ne J => ⟨σ, _, J, q dx n ne⟩
end XV
end
section
set_option Elab.async false
set_option linter.all false
set_option maxRecDepth 100000
set_option maxHeartbeats 4000000
namespace XV
open PySem PySem.Spec PyProof.Rows L2
/-! ### what an __init__ that stores its one argument promises -/
def spIni (K : PySem.W.Frag) (f : Str) : Sp := fun vs H Q _ => ∃ (a C : Addr) (b : Bs) (v : V), vs = [.ref a, v] ∧ XC K C b ∧ PySem.W.findIn K (.ref C) f = some none ∧ H a = some (exo a C none) ∧
  ∀ d, H d = none → d ≠ a → Q .non (upd (upd H d (exd d [(f, v)])) a (exo a C (some d)))
/-- of one that stores nothing -/
def spIni0 : Sp := fun vs H Q _ => ∃ a : Addr, vs = [.ref a] ∧ Q .non H
def iArgs (f : Str) (p1 p2 : Pos) : Arguments := { posonlyargs := [], args := [{ arg := "self", annotation := none, pos := p1 }, { arg := f, annotation := none, pos := p2 }], vararg := none, kwonlyargs := [], kw_defaults := [], kwarg := none, defaults := [] }
def iBody (f : Str) (q1 q2 q3 q4 : Pos) : List Stmt := [.Assign [.Attribute (.Name "self" q1) f q2] (.Name f q3) q4]
def iScope (f : Str) : Scope := { kind := .function, names := [("self", .local), (f, .local)], isGenerator := false, isCoroutine := false, more := [] }
theorem scG : FnScope ["self", "given"] ["self", "given"] (iScope "given") := ⟨rfl, rfl, rfl, by decide +kernel, rfl, by decide +kernel, by decide +kernel⟩
theorem scI : FnScope ["self", "index"] ["self", "index"] (iScope "index") := ⟨rfl, rfl, rfl, by decide +kernel, rfl, by decide +kernel, by decide +kernel⟩
section
variable {P : Program} {w : World} {K : PySem.W.Frag} {mg : Str → Option Value} {base : Heap} {qual : Str} {p1 p2 q1 q2 q3 q4 : Pos} {fI : Addr} {fd : FuncData}
theorem ok_given (F : FunD K "__init__" qual (iArgs "given" p1 p2) (iBody "given" q1 q2 q3 q4) (iScope "given") [] [] fI fd) : FnOk P w K mg base CX0 1 fI fd ["self", "given"] (spIni K "given") := by
  refine F.ok scG (fun vs H Q E h => ?_) (fun cdv A outer s H vs Q E hr h => ⟨_, PSs.nox (pss_one (ps_xst (pv 0) (pv 1))), ?_⟩)
  · obtain ⟨a, C, b, v, rfl, _⟩ := h
    rfl
  · obtain ⟨a, C, b, v, rfl, T, hno, ea, k⟩ := h
    exact ⟨_, rfl, _, rfl, a, C, b, rfl, T, hno, ea, fun d hd hne => k d hd hne⟩
theorem ok_index (F : FunD K "__init__" qual (iArgs "index" p1 p2) (iBody "index" q1 q2 q3 q4) (iScope "index") [] [] fI fd) : FnOk P w K mg base CX0 1 fI fd ["self", "index"] (spIni K "index") := by
  refine F.ok scI (fun vs H Q E h => ?_) (fun cdv A outer s H vs Q E hr h => ⟨_, PSs.nox (pss_one (ps_xst (pv 0) (pv 1))), ?_⟩)
  · obtain ⟨a, C, b, v, rfl, _⟩ := h
    rfl
  · obtain ⟨a, C, b, v, rfl, T, hno, ea, k⟩ := h
    exact ⟨_, rfl, _, rfl, a, C, b, rfl, T, hno, ea, fun d hd hne => k d hd hne⟩
def jArgs (p1 : Pos) : Arguments := { posonlyargs := [], args := [{ arg := "self", annotation := none, pos := p1 }], vararg := none, kwonlyargs := [], kw_defaults := [], kwarg := none, defaults := [] }
def jScope : Scope := { kind := .function, names := [("self", .local)], isGenerator := false, isCoroutine := false, more := [] }
theorem scJ : FnScope ["self"] ["self"] jScope := ⟨rfl, rfl, rfl, by decide +kernel, rfl, by decide +kernel, by decide +kernel⟩
theorem ok_pass (F : FunD K "__init__" qual (jArgs p1) [.Pass q1] jScope [] [] fI fd) : FnOk P w K mg base CX0 1 fI fd ["self"] spIni0 := by
  refine F.ok scJ (fun vs H Q E h => ?_) (fun cdv A outer s H vs Q E hr h => ⟨_, PSs.nox (pss_one ps_pass), ?_⟩)
  · obtain ⟨a, rfl, _⟩ := h
    rfl
  · obtain ⟨a, rfl, k⟩ := h
    exact k
end
/-- a class whose __init__ stores its one argument f: all that its calls lean on -/
structure XD (P : Program) (w : World) (K : PySem.W.Frag) (mg : Str → Option Value) (base : Heap) (x : Str) (C : Addr) (b : Bs) (f : Str) : Prop where
  T : XC K C b
  gC : mg x = some (.ref C)
  hno : PySem.W.findIn K (.ref C) f = some none
  ini : ∃ (fI : Addr) (fd : FuncData), PySem.W.findIn K (.ref C) "__init__" = some (some (.ref fI)) ∧ PySem.W.typeIn K (.ref fI) = some (.type "function") ∧ FnOk P w K mg base CX0 1 fI fd ["self", f] (spIni K f) ∧
    (∀ s a u, BindsTo s fd ⟨[a, u], []⟩ ((["self", f] : List Str).zip [a, u])) ∧ (∀ s a u, BindsTo s fd ⟨[a], [(f, u)]⟩ ((["self", f] : List Str).zip [a, u]))
/-- a class whose __init__ stores nothing -/
structure XE0 (P : Program) (w : World) (K : PySem.W.Frag) (mg : Str → Option Value) (base : Heap) (x : Str) (C : Addr) (b : Bs) : Prop where
  T : XC K C b
  gC : mg x = some (.ref C)
  ini : ∃ (fI : Addr) (fd : FuncData), PySem.W.findIn K (.ref C) "__init__" = some (some (.ref fI)) ∧ PySem.W.typeIn K (.ref fI) = some (.type "function") ∧ FnOk P w K mg base CX0 1 fI fd ["self"] spIni0 ∧
    (∀ s a, BindsTo s fd ⟨[a], []⟩ ((["self"] : List Str).zip [a]))
theorem same_upd {H : Hp} {a : Addr} {o : HO} (h : H a = none) : Same H (upd H a o) := fun b u e => by rw [upd_ne (ne_of_none e h)]; exact e
section
variable {X : Cx} {pins : List (Addr × Obj)} {σ : L2.St} {H : Hp} {s : Shared} {C : Addr} {b : Bs} {f x : Str} {v : V} {u : Value} {Q : VK}
/-- the new object, its args' tuple ahead of it -/
theorem Inv.xnew (I : Inv X pins σ H s) (us : List Value) (C : Addr) : Inv X pins σ (upd H (s.heap.objs.size + 1) (exo (s.heap.objs.size + 1) C none)) { s with heap := (s.heap.push (PySem.W.kdv_tup us)).push (PX.excO C s.heap.objs.size) } := by
  obtain ⟨hp, g, dr, tk, os⟩ := s
  have old : ∀ c o, hp.get? c = some o → ((hp.push (PySem.W.kdv_tup us)).push (PX.excO C hp.objs.size)).get? c = some o := fun c o e => Heap.get?_push_of_some _ (Heap.get?_push_of_some _ e)
  have new : ((hp.push (PySem.W.kdv_tup us)).push (PX.excO C hp.objs.size)).get? (hp.objs.size + 1) = some (PX.excO C hp.objs.size) := by heap_get
  exact I.laid (t' := tk) (a := hp.objs.size + 1) (o := exo (hp.objs.size + 1) C none) old (Nat.le_succ _) (exo_ok new)
theorem one_line (us : List Value) (h : us.length ≤ 3) : us.length ≤ sizeLine := by rw [sizeLine_eq]; omega
theorem xdone {a : Addr} (hn : H a = none) (q : ∀ c H2, Same H H2 → XvAt H2 c C f v → Q (.ref c) H2) : ∀ d, upd H a (exo a C none) d = none → d ≠ a → Q (.ref a) (upd (upd (upd H a (exo a C none)) d (exd d [(f, v)])) a (exo a C (some d))) := fun d hd hne => by
  have hd0 : H d = none := by rw [← upd_ne (H := H) (o := exo a C none) hne]; exact hd
  refine q a _ (fun c o e => ?_) ⟨d, upd_same, ?_⟩
  · rw [upd_ne (ne_of_none e hn), upd_ne (ne_of_none e hd0), upd_ne (ne_of_none e hn)]
    exact e
  · rw [upd_ne hne, upd_same]
theorem run_xp (D : XD X.prog X.w X.K X.mg X.base x C b f) (hr : Room 2 X.A) (I : Inv X pins σ H s) (rv : RelV v u) (q : ∀ a H2, Same H H2 → XvAt H2 a C f v → Q (.ref a) H2) :
    wpAny (model X.prog X.w) X.A (call (.ref C) [u]) (EP X pins σ Q) X.xe s := by
  obtain ⟨fI, fd, iC, tI, F, bp, _⟩ := D.ini
  obtain ⟨nm, N, qn, bs, bm, hdct, sn, sub, ab, col, dd, k0, k1, k2, k3, k5, hC, hT⟩ := PySem.W.excInit_of I.kIn D.T.inn
  have J := Inv.xnew I [u] C
  have hn : H (s.heap.objs.size + 1) = none := I.hok.fresh (Nat.le_succ _)
  have kin := I.kIn
  obtain ⟨hp, g, dr, tk, os⟩ := s
  refine wpAny_call (PX.call_own b.base hT hC (PySem.W.looks_findIn kin iC) (fun self => PySem.W.bind_fn kin self tI) (one_line [u] (by show 1 ≤ 3; decide))
    (codeAny_mono (F.run _ X.stack _ _ ⟨[Value.ref (hp.objs.size + 1), u], []⟩ [Value.ref (hp.objs.size + 1), u] [V.ref (hp.objs.size + 1), v] (fun z H2 => z = .non ∧ Q (.ref (hp.objs.size + 1)) H2) E0 (hr.make C [u] []) (J.env0.make C [u] []) (bp _ _ _) (.cons rfl (.cons rv .nil))
      ⟨_, C, b, v, rfl, D.T, D.hno, upd_same, fun d hd hne => ⟨rfl, xdone hn q d hd hne⟩⟩) fun r s' hq => ?_))
  cases r with
  | error er => exact hq.elim
  | ok fl =>
    cases fl with
    | ret z =>
      obtain ⟨v', H', J2, rz, ez, q2⟩ := J.after hq
      subst ez
      exact ⟨rz, .ref _, H', J2, rfl, q2⟩
    | next => exact False.elim hq
    | brk => exact False.elim hq
    | cont => exact False.elim hq
theorem run_xk (D : XD X.prog X.w X.K X.mg X.base x C b f) (hr : Room 2 X.A) (I : Inv X pins σ H s) (rv : RelV v u) (q : ∀ a H2, Same H H2 → XvAt H2 a C f v → Q (.ref a) H2) :
    wpAny (model X.prog X.w) X.A (call (.ref C) [] [(f, u)]) (EP X pins σ Q) X.xe s := by
  obtain ⟨fI, fd, iC, tI, F, _, bk⟩ := D.ini
  obtain ⟨nm, N, qn, bs, bm, hdct, sn, sub, ab, col, dd, k0, k1, k2, k3, k5, hC, hT⟩ := PySem.W.excInit_of I.kIn D.T.inn
  have J := Inv.xnew I [] C
  have hn : H (s.heap.objs.size + 1) = none := I.hok.fresh (Nat.le_succ _)
  have kin := I.kIn
  obtain ⟨hp, g, dr, tk, os⟩ := s
  refine wpAny_call (call_kw b.base hT hC (PySem.W.looks_findIn kin iC) (fun self => PySem.W.bind_fn kin self tI) (one_line [] (by decide))
    (codeAny_mono (F.run _ X.stack _ _ ⟨[Value.ref (hp.objs.size + 1)], [(f, u)]⟩ [Value.ref (hp.objs.size + 1), u] [V.ref (hp.objs.size + 1), v] (fun z H2 => z = .non ∧ Q (.ref (hp.objs.size + 1)) H2) E0 (hr.make C [] [(f, u)]) (J.env0.make C [] [(f, u)]) (bk _ _ _) (.cons rfl (.cons rv .nil))
      ⟨_, C, b, v, rfl, D.T, D.hno, upd_same, fun d hd hne => ⟨rfl, xdone hn q d hd hne⟩⟩) fun r s' hq => ?_))
  cases r with
  | error er => exact hq.elim
  | ok fl =>
    cases fl with
    | ret z =>
      obtain ⟨v', H', J2, rz, ez, q2⟩ := J.after hq
      subst ez
      exact ⟨rz, .ref _, H', J2, rfl, q2⟩
    | next => exact False.elim hq
    | brk => exact False.elim hq
    | cont => exact False.elim hq
theorem run_x0 (D : XE0 X.prog X.w X.K X.mg X.base x C b) (hr : Room 2 X.A) (I : Inv X pins σ H s) (q : ∀ a H2, Same H H2 → H2 a = some (exo a C none) → Q (.ref a) H2) :
    wpAny (model X.prog X.w) X.A (call (.ref C) []) (EP X pins σ Q) X.xe s := by
  obtain ⟨fI, fd, iC, tI, F, bp⟩ := D.ini
  obtain ⟨nm, N, qn, bs, bm, hdct, sn, sub, ab, col, dd, k0, k1, k2, k3, k5, hC, hT⟩ := PySem.W.excInit_of I.kIn D.T.inn
  have J := Inv.xnew I [] C
  have hn : H (s.heap.objs.size + 1) = none := I.hok.fresh (Nat.le_succ _)
  have kin := I.kIn
  obtain ⟨hp, g, dr, tk, os⟩ := s
  refine wpAny_call (PX.call_own b.base hT hC (PySem.W.looks_findIn kin iC) (fun self => PySem.W.bind_fn kin self tI) (one_line [] (by decide))
    (codeAny_mono (F.run _ X.stack _ _ ⟨[Value.ref (hp.objs.size + 1)], []⟩ [Value.ref (hp.objs.size + 1)] [V.ref (hp.objs.size + 1)] (fun z H2 => z = .non ∧ Q (.ref (hp.objs.size + 1)) H2) E0 (hr.make C [] []) (J.env0.make C [] []) (bp _ _) (.cons rfl .nil)
      ⟨_, rfl, rfl, q _ _ (same_upd hn) upd_same⟩) fun r s' hq => ?_))
  cases r with
  | error er => exact hq.elim
  | ok fl =>
    cases fl with
    | ret z =>
      obtain ⟨v', H', J2, rz, ez, q2⟩ := J.after hq
      subst ez
      exact ⟨rz, .ref _, H', J2, rfl, q2⟩
    | next => exact False.elim hq
    | brk => exact False.elim hq
    | cont => exact False.elim hq
end
/-! ### C(e), C(f = e), C() -/
def tXv (C : Addr) (f : Str) (t : TA) : TE := fun σ H Q => t σ H fun vs H1 => ∃ v, vs = [v] ∧ ∀ a H2, Same H1 H2 → XvAt H2 a C f v → Q (.ref a) H2
def tX0 (C : Addr) : TE := fun _ H Q => ∀ a H2, Same H H2 → H2 a = some (exo a C none) → Q (.ref a) H2
section
variable {X : Cx} {C : Addr} {b : Bs} {f x : Str} {p pos kpos : Pos} {e : Expr} {es : List Expr} {kws : List Keyword} {t : TA}
theorem pe_xp (D : XD X.prog X.w X.K X.mg X.base x C b f) (hr : Room 2 X.A) (ha : PA X (e :: es) t) (hg : Gl X x := by rfl) (hdb : (x == ("__debug__" : Str)) = false := by decide)
    (hs : starEach (e :: es) X.env = (false, eval e X.env) :: starEach es X.env := by rfl) (hpl : (backTo pos (starEach es X.env)).any (·.1) = false := by rfl) : PE X (.Call (.Name x p) (e :: es) [] pos) (tXv C f t) := by
  refine ⟨fun pins s σ H Q I h => ?_⟩
  refine wpAny_Call_Name_kw (ld_glob I hg D.gC ?_ hdb)
  refine PySem.W.callWith_K (h₀ := X.base) I.ok.mod.kin D.T.kC (thn (ha.run pos pins s σ H _ I h) fun us s1 ⟨vs, H1, I1, r, v, ev, q⟩ => ⟨I1.kIn, ?_⟩) hs hpl
  subst ev
  cases r with
  | cons rv rn =>
    cases rn
    exact run_xp D hr I1 rv q
theorem pe_xk (D : XD X.prog X.w X.K X.mg X.base x C b f) (hr : Room 2 X.A) (hkw : PK X kws t) (hg : Gl X x := by rfl) (hdb : (x == ("__debug__" : Str)) = false := by decide)
    (hall : (backToKw pos (keywordEach kws X.env)).all (·.1.isSome) = true := by rfl) (hks : (backToKw pos (keywordEach kws X.env)).filterMap (·.1) = [f] := by rfl)
    (hpl : ((backTo pos (starEach [] X.env)).any (·.1) || (backToKw pos (keywordEach kws X.env)).any (·.1.isNone)) = false := by rfl) : PE X (.Call (.Name x p) [] kws pos) (tXv C f t) := by
  refine ⟨fun pins s σ H Q I h => ?_⟩
  refine wpAny_Call_Name_kw (ld_glob I hg D.gC ?_ hdb)
  refine PySem.W.callWith_KW0 (h₀ := X.base) I.ok.mod.kin D.T.kC hall (thn (hkw.run pos pins s σ H _ I h) fun us s1 ⟨vs, H1, I1, r, v, ev, q⟩ => ⟨I1.kIn, ?_⟩) hpl
  subst ev
  rw [hks]
  cases r with
  | cons rv rn =>
    cases rn
    exact run_xk D hr I1 rv q
theorem pe_x0 (D : XE0 X.prog X.w X.K X.mg X.base x C b) (hr : Room 2 X.A) (hg : Gl X x := by rfl) (hdb : (x == ("__debug__" : Str)) = false := by decide) : PE X (.Call (.Name x p) [] [] pos) (tX0 C) := by
  refine ⟨fun pins s σ H Q I h => ?_⟩
  refine wpAny_Call_Name_kw (ld_glob I hg D.gC ?_ hdb)
  exact PySem.W.callWith_K0 I.kIn D.T.kC (run_x0 D hr I h)
end
/-! ### e.f -/
def tXf (K : PySem.W.Frag) (f : Str) (te : TE) : TE := fun σ H Q => te σ H fun x H1 => ∃ (a C : Addr) (b : Bs) (v : V), x = .ref a ∧ XC K C b ∧ PySem.W.findIn K (.ref C) f = some none ∧ XvAt H1 a C f v ∧ Q v H1
theorem inst_of {X : Cx} {pins : List (Addr × Obj)} {σ : L2.St} {H : Hp} {s : Shared} {a C : Addr} (I : Inv X pins σ H s) (x : XnAt H a C) : ∃ oe od, PySem.W.InstAt s.heap a oe C od := by
  obtain ⟨d, h1, h2⟩ := x
  obtain ⟨t1, ho⟩ := exo_at I.hok h1
  cases d with
  | none => exact ⟨_, none, ho, rfl, rfl, trivial⟩
  | some dx =>
    obtain ⟨fs, h3⟩ := h2 dx rfl
    obtain ⟨mA, ⟨od, es, ep, hd, _⟩, _⟩ := exd_at I.hok h3
    exact ⟨_, some od, ho, rfl, rfl, hd⟩
theorem pe_xf {X : Cx} {K : PySem.W.Frag} {f : Str} {e : Expr} {te : TE} {pos : Pos} (he : PE X e te) (hK : X.K = K := by rfl) (hb : attributeBase e f X.env (eval e X.env) = eval e X.env := by rfl) : PE X (.Attribute e f pos) (tXf K f te) := by
  subst hK
  refine ⟨fun pins s σ H Q I h => ?_⟩
  refine attr_of hb (thn (he.run pins s σ H _ I h) fun u s1 ⟨x, H1, I1, rx, a, C, b, v, ex, T, hno, ⟨d, ea, ed⟩, q⟩ => ?_)
  subst ex
  obtain rfl : u = Value.ref a := rx
  obtain ⟨t1, ho⟩ := exo_at I1.hok ea
  obtain ⟨mA, hns, rel⟩ := exd_at I1.hok ed
  obtain ⟨od, hod, hl⟩ := lookIn_ns hns
  have l : List.lookup f [(f, v)] = some v := by simp [List.lookup]
  obtain ⟨u, hu, ru⟩ := RelO.some_of (v := v) (o := mA f) (by rw [← l]; exact rel f)
  have J : PySem.W.InstAt s1.heap a { cls := .ref C, dict := some d, data := .fields #[.ref t1, .none, .none, .none, .bool false, .none] } C (some od) := ⟨ho, rfl, rfl, hod⟩
  exact HandSPX.exc_get I1.kIn J T.ga T.gt T.ex (PySem.W.findObj_own T.hd hno rfl (by rw [hl, hu])) (handed_of ru) ⟨v, H1, I1.tok _, ru, q⟩
/-! ### isinstance(e, C) -/
def rIsx (K : PySem.W.Frag) : List V → Hp → VK → Prop := fun xs H Q => ∃ (a C : Addr) (b : Bs) (c : V) (u : Value) (r : Bool), xs = [.ref a, c] ∧ XC K C b ∧ XnAt H a C ∧ ClsV c u ∧ PySem.W.kitOne K (.ref C) u = some r ∧ Q (.bl r) H
theorem call_isx {X : Cx} : CallR X (.builtin "isinstance") (rIsx X.K) := by
  intro pins s σ H xs us Q I r h
  obtain ⟨a, C, b, c, u, k, rfl, T, x, cv, e, q⟩ := h
  obtain ⟨u1, u2, rfl, r1, r2⟩ := vals2 r
  have e2 := cv.eq r2
  subst e2
  cases (show u1 = Value.ref a from r1)
  obtain ⟨oe, od, J⟩ := inst_of I x
  have cl : (PySem.W.clsIn X.K C).isSome = true := by
    obtain ⟨cd, hc, _⟩ := PySem.W.any_some T.hd
    rw [hc]; rfl
  exact PySem.W.kia_one (PySem.W.kitx_exc cl T.ga T.gt T.ex T.cl T.sp T.tk T.ob) I.kIn J e (fun z => nomatch z) fun tk => ⟨.bl k, H, I.tok tk, rfl, q⟩
end XV
end
section
set_option Elab.async false
set_option linter.all false
set_option maxRecDepth 100000
set_option maxHeartbeats 4000000
/-! RP: repr of data -/
namespace RP
open PySem PySem.Spec PyProof.Rows L2
def keyD : Key → PyData
  | .inl i => .int i
  | .inr x => .str x
/-- a value without parts -/
inductive Flat : V → PyData → Prop
  | non : Flat .non .none
  | bl (b : Bool) : Flat (.bl b) (.bool b)
  | int (i : Int) : Flat (.int i) (.int i)
  | str (x : Str) : Flat (.str x) (.str x)
inductive KvD : List (Key × V) → List (PyData × PyData) → Prop
  | nil : KvD [] []
  | cons {k : Key} {v : V} {d : PyData} {l : List (Key × V)} {m : List (PyData × PyData)} : Flat v d → KvD l m → KvD ((k, v) :: l) ((keyD k, d) :: m)
/-- what is shown: data without dicts, or a dict of flat values -/
inductive Sh (K : PySem.W.Frag) (H : Hp) : V → PyData → Prop
  | dp {v : V} {d : PyData} : Dp K H v d → d.hasDict = false → Sh K H v d
  | dic {a : Addr} {kvs : List (Key × V)} {ds : List (PyData × PyData)} : H a = some (.dK kvs) → KvD kvs ds → Sh K H (.ref a) (.dict ds)
theorem flat_reads {h : Heap} {v : V} {d : PyData} {u : Value} (f : Flat v d) (r : RelV v u) : Reads h u d [] := by
  cases f with
  | non => cases r; exact .none
  | bl b => cases r; exact .bool b
  | int i => obtain ⟨t, rfl⟩ := r; exact .int i t
  | str x => obtain ⟨t, rfl⟩ := r; exact .str x t
theorem key_reads {h : Heap} {k : Key} {u : Value} (r : keyIs k u = true) : Reads h u (keyD k) [] := by
  rcases keyIs_shape r with ⟨i, t, rfl, rfl⟩ | ⟨x, t, rfl, rfl⟩
  · exact .int i t
  · exact .str x t
theorem kv_reads {P : Program} {w : World} {h : Heap} : ∀ {kvs : List (Key × V)} {ds : List (PyData × PyData)} {vs : List (Key × Value)} {es : List DictEntry}, KvD kvs ds → KV kvs vs → Pairs (mixKind P w) es vs →
    ReadsAll h (es.map (·.key)) (ds.map (·.1)) [] ∧ ReadsAll h (es.map (·.val)) (ds.map (·.2)) []
  | _, _, _, _, .nil, .nil, .nil => ⟨.nil, .nil⟩
  | _, _, _, _, .cons f t, .cons ⟨e1, rv⟩ kv, .cons k1 k2 pr => by
    obtain ⟨h1, h2⟩ := kv_reads (h := h) t kv pr
    refine ⟨?_, ?_⟩
    · refine ReadsAll.cons (as := []) (bs := []) (key_reads ?_) h1
      have k1' := k1
      rw [← e1] at k1'
      exact k1'
    · refine ReadsAll.cons (as := []) (bs := []) ?_ h2
      have q := flat_reads (h := h) f rv
      rw [← k2] at q
      exact q
theorem Sh.reads {X : Cx} {pins : List (Addr × Obj)} {σ : L2.St} {H : Hp} {s : Shared} (I : Inv X pins σ H s) {v : V} {d : PyData} {u : Value} (x : Sh X.K H v d) (r : RelV v u) : ∃ as, Reads s.heap u d as ∧ (d.hasDict = true → sysModules ∉ as) := by
  cases x with
  | dp h hn =>
    obtain ⟨as, q⟩ := Dp.reads I d v u h r
    exact ⟨as, q, fun z => by rw [hn] at z; cases z⟩
  | @dic a kvs ds h k =>
    obtain ⟨_, hs, vs, kv, o, es, ep, h1, h2, h3, _, h5, _⟩ := (show ObjOk X.prog X.w H s.heap a (.dK kvs) from I.hok a _ h)
    cases r
    obtain ⟨r1, r2⟩ := kv_reads (h := s.heap) k kv h5
    refine ⟨_, .dict h1 h2.1 h3 r1 r2, fun _ z => ?_⟩
    rcases List.mem_append.mp z with z | z
    · rcases List.mem_cons.mp z with z | z
      · rw [z] at hs; simp at hs
      · cases z
    · cases z
def rRepr (K : PySem.W.Frag) : List V → Hp → VK → Prop := fun xs H Q => ∃ (v : V) (d : PyData), xs = [v] ∧ Sh K H v d ∧ d.showable = true ∧ d.depth ≤ 60 ∧ d.shown.length ≤ sizeLine ∧ Q (.str d.shown) H
theorem call_repr {X : Cx} (g : X.A.guards = some []) (hu : X.A.units + 64 < cLine) : CallR X (.builtin "repr") (rRepr X.K) := by
  intro pins s σ H xs us Q I r h
  obtain ⟨v, d, rfl, x, hs, hd, hz, q⟩ := h
  obtain ⟨u, rfl, ru⟩ := vals1 r
  obtain ⟨as, rd, hm⟩ := x.reads I ru
  cases rd with
  | none => exact PySem.P.repr_of_none ⟨.str _, H, I.tok _, ⟨_, rfl⟩, q⟩
  | bool b => exact PySem.P.repr_of_bool ⟨.str _, H, I.tok _, ⟨_, rfl⟩, q⟩
  | int i t => exact PySem.P.repr_of_int (of_decide_eq_true (by simpa only [PyData.showable] using hs)) ⟨.str _, H, I.tok _, ⟨_, rfl⟩, q⟩
  | str y t => exact PySem.P.repr_of_str ⟨.str _, H, I.tok _, ⟨_, rfl⟩, q⟩ (by simpa only [PyData.shown] using hz)
  | list h1 h2 h3 h4 => exact repr_of_reads' (.list h1 h2 h3 h4) hs hm g (by omega) (fun _ _ e => e) (fun h' u tk k => ⟨.str _, H, I.kept k, ⟨_, rfl⟩, q⟩) hz
  | tuple h1 h2 h3 h4 => exact repr_of_reads' (.tuple h1 h2 h3 h4) hs hm g (by omega) (fun _ _ e => e) (fun h' u tk k => ⟨.str _, H, I.kept k, ⟨_, rfl⟩, q⟩) hz
  | dict h1 h2 h3 h4 h5 => exact repr_of_reads' (.dict h1 h2 h3 h4 h5) hs hm g (by omega) (fun _ _ e => e) (fun h' u tk k => ⟨.str _, H, I.kept k, ⟨_, rfl⟩, q⟩) hz
end RP
end
section
set_option Elab.async false
set_option linter.all false
set_option maxRecDepth 100000
set_option maxHeartbeats 4000000
/-! EX: more of what evaluates to what (over HandS.Evl). -/
namespace EX
open PySem L2 Evl
section
variable {K : PySem.W.Frag} {σ : L2.St} {H H' : Hp} {ta tb te tx : TE} {t u : TT} {x y z v : V} {D : Ends} {tu tw tz : TS} {g : TG}
/-- x + e, x a list, e a new one -/
theorem el_catV {l : Addr} {xs ys : List V} (ha : Ev ta σ H (.ref l)) (hl : H l = some (.lst xs)) (hb : EvL tb σ H ys) (hz : xs.length + ys.length ≤ 100000) : EvL (tOp rCat ta tb) σ H (xs ++ ys) := fun H1 e Q q =>
  ha H1 e _ fun H2 e2 => hb H2 (e.trans e2) _ fun p H3 hp e3 h3 => ⟨l, p, xs, ys, rfl, rfl, e3 _ _ (e2 _ _ (e _ _ hl)), h3, sz_of hz, fun r hr => q r _ (fresh_back (e2.trans e3) hr) ((e2.trans e3).trans (Ex.new hr)) upd_same⟩
theorem el_catLL {xs ys : List V} (ha : EvL ta σ H xs) (hb : EvL tb σ H ys) (hz : xs.length + ys.length ≤ 100000) : EvL (tOp rCat ta tb) σ H (xs ++ ys) := fun H1 e Q q =>
  ha H1 e _ fun p H2 _ e2 h2 => hb H2 (e.trans e2) _ fun r H3 hr e3 h3 => ⟨p, r, xs, ys, rfl, rfl, e3 _ _ h2, h3, sz_of hz, fun m hm => q m _ (fresh_back (e2.trans e3) hm) ((e2.trans e3).trans (Ex.new hm)) upd_same⟩
/-- lists at addresses -/
def AllL (H : Hp) (f : Nat → List V) (ps : List Addr) : Prop := ∀ i p, ps[i]? = some p → H p = some (.lst (f i))
theorem AllL.ex {f : Nat → List V} {ps : List Addr} (e : Ex H H') (h : AllL H f ps) : AllL H' f ps := fun i p hi => e _ _ (h i p hi)
/-- a new list of so many new lists, told by their contents -/
def EvLL (te : TE) (σ : L2.St) (H : Hp) (n : Nat) (f : Nat → List V) : Prop := ∀ H1, Ex H H1 → ∀ Q : VK, (∀ (p : Addr) (ps : List Addr) H2, H1 p = none → Ex H1 H2 → H2 p = some (.lst (ps.map V.ref)) → ps.length = n → AllL H2 f ps → Q (.ref p) H2) → te σ H1 Q
def Cw2 (H : Hp) (f : Nat → List V) (Dl : Addr) (i : Nat) (H' : Hp) : Prop := H Dl = none ∧ Ex H H' ∧ ∃ ps : List Addr, H' Dl = some (.lst (ps.map V.ref)) ∧ ps.length = i ∧ AllL H' f ps ∧ Dl ∉ ps
/-- [e for x in l], e a new list each -/
theorem el_lc2 {a : Addr} {xs : List V} {tl : TE} {j : Nat} {vs : List Nat} (f : Nat → List V) (h : Ev tl σ H (.ref a)) (hx : SqL K H a xs) (hz : xs.length ≤ 40000) (hw : ∀ x, wipe ((wipe σ vs).set j (some x)) vs = wipe σ vs)
    (he : ∀ (i : Nat) (x : V) H1, Ex H H1 → xs[i]? = some x → EvL te ((wipe σ vs).set j (some x)) H1 (f i)) : EvLL (tLc (iList K tl) (gName j) tYes te vs) σ H xs.length f := fun H0 e Q q =>
  h H0 e _ fun H1 e1 => ⟨a, rfl, ⟨xs, ex_l (e.trans e1) hx⟩, fun Dl hD => lc_list (xs := xs) (Cw2 H1 f Dl) ⟨hD, Ex.new hD, [], upd_same, rfl, fun i p hi => by simp at hi, by simp⟩ (fun i H' _ p => ex_l ((e.trans e1).trans p.2.1) hx)
    (fun i x H' hi ⟨p1, p2, ps, p3, p4, p5, p6⟩ => ⟨hw x, by
      show te ((wipe σ vs).set j (some x)) H' fun y H4 => ∃ acc, H4 Dl = some (.lst acc) ∧ acc.length < sizeLine ∧ Cw2 H1 f Dl (i + 1) (upd H4 Dl (.lst (acc ++ [y])))
      refine he i x H1 (e.trans e1) hi H' p2 _ fun p H4 hp e4 h4 => ⟨ps.map V.ref, e4 _ _ p3, sz_lt (by rw [List.length_map]; have := (List.getElem?_eq_some_iff.mp hi).1; omega), p1, Ex.mut (p2.trans e4) p1, ps ++ [p], ?_, by rw [List.length_append, p4]; rfl, ?_, ?_⟩
      · rw [upd_same, List.map_append]; rfl
      · intro k r hk
        have hne : r ≠ Dl := by
          intro z
          rw [List.getElem?_append] at hk
          split at hk
          · exact p6 (z ▸ List.mem_of_getElem? hk)
          · have hm := List.mem_of_getElem? hk
            have hr : r = p := by simpa using hm
            rw [← hr, z, p3] at hp
            cases hp
        rw [upd_ne hne]
        rw [List.getElem?_append] at hk
        split at hk
        · exact e4 _ _ (p5 k r hk)
        · rename_i hlt
          have hkl : k - ps.length = 0 := by
            have := (List.getElem?_eq_some_iff.mp hk).1
            simp at this
            exact this
          rw [hkl] at hk
          have hr : r = p := by simpa using hk.symm
          have hki : k = i := by omega
          rw [hr, hki]
          exact h4
      · intro hm
        rcases List.mem_append.mp hm with hm | hm
        · exact p6 hm
        · have hr : Dl = p := by simpa using hm
          rw [← hr, p3] at hp
          cases hp⟩)
    (fun H' ⟨p1, p2, ps, p3, p4, p5, p6⟩ => q Dl ps H' (fresh_back e1 p1) (e1.trans p2) p3 p4 p5)⟩
end
end EX
end
section
set_option Elab.async false
set_option linter.all false
set_option maxRecDepth 100000
set_option maxHeartbeats 4000000
namespace K01
open PySem PySem.Spec PyProof.Rows L2 XV RP GL
open C8 (Cal pe_c pe_gc)
def top (i : Nat) : Stmt := PySem.Challenge.pw_pairsums_k01_limits_and_errors.main.body.getD i (.Pass ⟨0, 0, 0, 0⟩)
abbrev s_law_dip : Stmt := top 36
abbrev s_law_one_of : Stmt := top 37
abbrev s_law_jar : Stmt := top 38
abbrev s_law_sorts : Stmt := top 39
abbrev s_law_given_errors : Stmt := top 40
abbrev s_law_index_errors : Stmt := top 41
abbrev s_law_right : Stmt := top 42
abbrev s_law : Stmt := top 43
abbrev FnP (K : PySem.W.Frag) (x : Str) (st : Stmt) (f : Addr) (fd : FuncData) : Prop := FunD K x x (defArgs st) (defBody st) (defScope st) [] [] f fd
/-- what the top has written -/
structure Tx (P : Program) (w : World) (K : PySem.W.Frag) (mg : Str → Option Value) (base : Heap) : Prop where
  n_len : mg "len" = none
  n_int : mg "int" = none
  n_abs : mg "abs" = none
  n_divmod : mg "divmod" = none
  n_isinstance : mg "isinstance" = none
  n_repr : mg "repr" = none
  n_range : mg "range" = none
  n_enumerate : mg "enumerate" = none
  n_all : mg "all" = none
  n_min : mg "min" = none
  n_max : mg "max" = none
  n_ValueError : mg "ValueError" = none
  n_LookupError : mg "LookupError" = none
  n_ArithmeticError : mg "ArithmeticError" = none
  c_InvalidText : ∃ u, mg "InvalidText" = some u ∧ RelV (.ref (He.ga K "InvalidText")) u
  c_InvalidName : ∃ u, mg "InvalidName" = some u ∧ RelV (.ref (He.ga K "InvalidName")) u
  c_InvalidKind : ∃ u, mg "InvalidKind" = some u ∧ RelV (.ref (He.ga K "InvalidKind")) u
  c_InvalidWish : ∃ u, mg "InvalidWish" = some u ∧ RelV (.ref (He.ga K "InvalidWish")) u
  c_InvalidIndex : ∃ u, mg "InvalidIndex" = some u ∧ RelV (.ref (He.ga K "InvalidIndex")) u
  c_InvalidNumber : ∃ u, mg "InvalidNumber" = some u ∧ RelV (.ref (He.ga K "InvalidNumber")) u
  c_InvalidLine : ∃ u, mg "InvalidLine" = some u ∧ RelV (.ref (He.ga K "InvalidLine")) u
  c_NotATable : ∃ u, mg "NotATable" = some u ∧ RelV (.ref (He.ga K "NotATable")) u
  c_InvalidColumns : ∃ u, mg "InvalidColumns" = some u ∧ RelV (.ref (He.ga K "InvalidColumns")) u
  c_InvalidValues : ∃ u, mg "InvalidValues" = some u ∧ RelV (.ref (He.ga K "InvalidValues")) u
  c_InvalidCells : ∃ u, mg "InvalidCells" = some u ∧ RelV (.ref (He.ga K "InvalidCells")) u
  c_InvalidLost : ∃ u, mg "InvalidLost" = some u ∧ RelV (.ref (He.ga K "InvalidLost")) u
  c_InvalidNames : ∃ u, mg "InvalidNames" = some u ∧ RelV (.ref (He.ga K "InvalidNames")) u
  c_InvalidRounds : ∃ u, mg "InvalidRounds" = some u ∧ RelV (.ref (He.ga K "InvalidRounds")) u
  c_InvalidDeeds : ∃ u, mg "InvalidDeeds" = some u ∧ RelV (.ref (He.ga K "InvalidDeeds")) u
  c_UnknownName : ∃ u, mg "UnknownName" = some u ∧ RelV (.ref (He.ga K "UnknownName")) u
  c_NotLost : ∃ u, mg "NotLost" = some u ∧ RelV (.ref (He.ga K "NotLost")) u
  c_NotRight : ∃ u, mg "NotRight" = some u ∧ RelV (.ref (He.ga K "NotRight")) u
  c_NotBack : ∃ u, mg "NotBack" = some u ∧ RelV (.ref (He.ga K "NotBack")) u
  c_NotReady : ∃ u, mg "NotReady" = some u ∧ RelV (.ref (He.ga K "NotReady")) u
  c_Broken : ∃ u, mg "Broken" = some u ∧ RelV (.ref (He.ga K "Broken")) u
  c_InUse : ∃ u, mg "InUse" = some u ∧ RelV (.ref (He.ga K "InUse")) u
  c_NothingToUndo : ∃ u, mg "NothingToUndo" = some u ∧ RelV (.ref (He.ga K "NothingToUndo")) u
  c_WrongValue : ∃ u, mg "WrongValue" = some u ∧ RelV (.ref (He.ga K "WrongValue")) u
  c_WrongName : ∃ u, mg "WrongName" = some u ∧ RelV (.ref (He.ga K "WrongName")) u
  c_NoAnswer : ∃ u, mg "NoAnswer" = some u ∧ RelV (.ref (He.ga K "NoAnswer")) u
  d_InvalidText : XD P w K mg base "InvalidText" (He.ga K "InvalidText") .ve "given"
  d_InvalidName : XD P w K mg base "InvalidName" (He.ga K "InvalidName") .ve "given"
  d_InvalidKind : XD P w K mg base "InvalidKind" (He.ga K "InvalidKind") .ve "given"
  d_InvalidWish : XD P w K mg base "InvalidWish" (He.ga K "InvalidWish") .ve "given"
  d_InvalidIndex : XD P w K mg base "InvalidIndex" (He.ga K "InvalidIndex") .ve "given"
  d_InvalidNumber : XD P w K mg base "InvalidNumber" (He.ga K "InvalidNumber") .ve "given"
  d_InvalidLine : XD P w K mg base "InvalidLine" (He.ga K "InvalidLine") .ve "given"
  d_NotATable : XD P w K mg base "NotATable" (He.ga K "NotATable") .ve "given"
  d_InvalidColumns : XD P w K mg base "InvalidColumns" (He.ga K "InvalidColumns") .ve "index"
  d_InvalidValues : XD P w K mg base "InvalidValues" (He.ga K "InvalidValues") .ve "index"
  d_InvalidCells : XD P w K mg base "InvalidCells" (He.ga K "InvalidCells") .ve "index"
  d_InvalidLost : XD P w K mg base "InvalidLost" (He.ga K "InvalidLost") .ve "index"
  d_InvalidNames : XD P w K mg base "InvalidNames" (He.ga K "InvalidNames") .ve "index"
  d_InvalidRounds : XD P w K mg base "InvalidRounds" (He.ga K "InvalidRounds") .ve "index"
  d_InvalidDeeds : XD P w K mg base "InvalidDeeds" (He.ga K "InvalidDeeds") .ve "index"
  d_UnknownName : XD P w K mg base "UnknownName" (He.ga K "UnknownName") .le "given"
  d_NotLost : XD P w K mg base "NotLost" (He.ga K "NotLost") .le "given"
  d_NotRight : XE0 P w K mg base "NotRight" (He.ga K "NotRight") .ae
  d_NotBack : XD P w K mg base "NotBack" (He.ga K "NotBack") .ae "given"
  d_NotReady : XD P w K mg base "NotReady" (He.ga K "NotReady") .ae "given"
  d_Broken : XD P w K mg base "Broken" (He.ga K "Broken") .ae "index"
  d_InUse : XD P w K mg base "InUse" (He.ga K "InUse") .ae "index"
  d_NothingToUndo : XE0 P w K mg base "NothingToUndo" (He.ga K "NothingToUndo") .ae
  d_WrongValue : XE0 P w K mg base "WrongValue" (He.ga K "WrongValue") .ve
  d_WrongName : XE0 P w K mg base "WrongName" (He.ga K "WrongName") .le
  d_NoAnswer : XE0 P w K mg base "NoAnswer" (He.ga K "NoAnswer") .ae
/-- the classes that _law_sorts asks for, in its order -/
def tc (K : PySem.W.Frag) : List Value := [.ref (He.ga K "InvalidText"), .ref (He.ga K "InvalidName"), .ref (He.ga K "InvalidKind"), .ref (He.ga K "InvalidWish"), .ref (He.ga K "InvalidIndex"), .ref (He.ga K "InvalidNumber"), .ref (He.ga K "InvalidLine"), .ref (He.ga K "NotATable"), .ref (He.ga K "InvalidColumns"), .ref (He.ga K "InvalidValues"), .ref (He.ga K "InvalidCells"), .ref (He.ga K "InvalidLost"), .ref (He.ga K "InvalidNames"), .ref (He.ga K "InvalidRounds"), .ref (He.ga K "InvalidDeeds"), .ref (He.ga K "UnknownName"), .ref (He.ga K "NotLost"), .ref (He.ga K "NotRight"), .ref (He.ga K "NotBack"), .ref (He.ga K "NotReady"), .ref (He.ga K "Broken"), .ref (He.ga K "InUse"), .ref (He.ga K "NothingToUndo"), .ref (He.ga K "WrongValue"), .ref (He.ga K "WrongName"), .ref (He.ga K "NoAnswer"), .type "ValueError", .type "LookupError", .type "ArithmeticError"]
theorem same_put {H H' : Hp} {D : Addr} {o : HO} (hD : H D = none) (s : Same H H') : Same H (upd H' D o) := fun b u e => by rw [upd_ne (ne_of_none e hD)]; exact s b u e
theorem same_new {H : Hp} {a : Addr} {o : HO} (h : H a = none) : Same H (upd H a o) := fun b u e => by rw [upd_ne (ne_of_none e h)]; exact e
/-- all that was tracked but what stands at j is as it was -/
def But (j : Addr) (H H' : Hp) : Prop := ∀ b o, b ≠ j → H b = some o → H' b = some o
theorem But.refl (j : Addr) (H : Hp) : But j H H := fun _ _ _ e => e
theorem But.trans {j : Addr} {H H1 H2 : Hp} (a : But j H H1) (b : But j H1 H2) : But j H H2 := fun c o h e => b c o h (a c o h e)
theorem But.of {j : Addr} {H H' : Hp} (s : Same H H') : But j H H' := fun b o _ e => s b o e
theorem But.at_j (j : Addr) (H : Hp) (o : HO) : But j H (upd H j o) := fun b u h e => by rw [upd_ne h]; exact e
/-- a draw's jar: three whole numbers -/
def jar (a b c : Int) : HO := .lst [.int a, .int b, .int c]
def JarAt (H : Hp) (j : Addr) : Prop := ∃ a b c, H j = some (jar a b c)
theorem JarAt.on {H H' : Hp} {j : Addr} (x : JarAt H j) (s : Same H H') : JarAt H' j := let ⟨a, b, c, e⟩ := x; ⟨a, b, c, s _ _ e⟩
end K01
end
section
set_option Elab.async false
set_option linter.all false
set_option maxRecDepth 100000
set_option maxHeartbeats 4000000
namespace K01
open PySem PySem.Spec PyProof.Rows L2 XV RP GL
open C8 (Cal pe_c pe_gc)
open Evl EX
/-- a draw below t -/
def spDip : Sp := fun vs H Q _ => ∃ (j : Addr) (t : Int), vs = [.ref j, .int t] ∧ JarAt H j ∧ 0 < t ∧ t < 1000000 ∧ ∀ (d : Int) (H' : Hp), JarAt H' j → But j H H' → 0 ≤ d → d < t → Q (.int d) H'
section
variable {P : Program} {w : World} {K : PySem.W.Frag} {mg : Str → Option Value} {base : Heap} {f : Addr} {fd : FuncData}
abbrev sc_law_dip_N : List Str := ["_law_jar_here", "_law_top", "_law_digit"]
theorem sc_law_dip : FnScope sc_law_dip_N ["_law_jar_here", "_law_top"] (defScope s_law_dip) := ⟨rfl, rfl, rfl, by decide +kernel, rfl, by decide +kernel, by decide +kernel⟩
theorem ok_dip (F : FnP K "_law_dip" s_law_dip f fd) (T : Tx P w K mg base) : FnOk P w K mg base CX0 1 f fd ["_law_jar_here", "_law_top"] spDip := by
  refine F.ok sc_law_dip (fun vs H Q E h => ?_) (fun cdv A outer s H vs Q E hr h => ?_)
  · obtain ⟨j, t, rfl, _⟩ := h
    rfl
  · obtain ⟨j, t, rfl, ⟨a, b, c, hj⟩, ht, ht2, k⟩ := h
    refine ⟨_, PSs.nox (pss_cons (ps_asg (pe_op op_add (pe_ix ix_list (pv 0) pe_int (fun _ _ => rfl)) pe_int) (pg_sub (pv 0) pe_int set_list))
  (pss_cons (ps_if (pt_cmpR op_gt (pe_ix ix_list (pv 0) pe_int (fun _ _ => rfl)) pe_int (nomark _))
  (pss_cons (ps_asg (pe_callB call_divmod (by rfl) T.n_divmod (by decide +kernel) (pa_cons (pe_ix ix_list (pv 0) pe_int (fun _ _ => rfl)) (pa_cons (pv 1) pa_nil))) (pg_tup (by rfl) (pgs_cons (pg_sub (pv 0) pe_int set_list) (pgs_cons (pg_name (i := 2) sc_law_dip.nd rfl (.inl rfl)) pgs_nil))))
  (pss_one (ps_ret (pv 2))))
  pss_nil)
  (pss_cons (ps_asg (pe_op op_mod (pe_callTy call_int1 (by rfl) T.n_int (by decide +kernel) (pa_cons (pe_op op_add (pe_op op_mul (pe_ix ix_list (pv 0) pe_int (fun _ _ => rfl)) pe_int) (pe_op op_mul pe_int (pe_ix ix_list (pv 0) pe_int (fun _ _ => rfl)))) pa_nil)) pe_int) (pg_sub (pv 0) pe_int set_list))
  (pss_one (ps_ret (pe_op op_mod (pe_callTy call_int1 (by rfl) T.n_int (by decide +kernel) (pa_cons (pe_op op_fdiv (pe_ix ix_list (pv 0) pe_int (fun _ _ => rfl)) pe_int) pa_nil)) (pv 1))))))), ?_⟩
    have s0 : SqL K H j [.int a, .int b, .int c] := SqL.of hj
    refine ⟨_, rfl, j, _, 2, _, rfl, rfl, s0, rfl, _, _, rfl, rfl, _, rfl, j, _, 2, 2, rfl, rfl, hj, rfl, ?_⟩
    have e1 : upd H j (.lst (([.int a, .int b, .int c] : List V).set 2 (.int (c + 1)))) = upd H j (jar a b (c + 1)) := rfl
    rw [e1]
    have h1 : (upd H j (jar a b (c + 1))) j = some (jar a b (c + 1)) := upd_same
    have s1 : SqL K (upd H j (jar a b (c + 1))) j [.int a, .int b, .int (c + 1)] := SqL.of h1
    refine ⟨_, rfl, j, _, 0, _, rfl, rfl, s1, rfl, _, _, rfl, rfl, _, rfl, ?_⟩
    refine ite2 (fun _ => ?_) (fun _ => ?_)
    · refine ⟨_, rfl, j, _, 0, _, rfl, rfl, s1, rfl, _, rfl, a, t, rfl, ⟨ht, by omega⟩, fun p hp => ?_⟩
      have hjp : j ≠ p := ne_of_none h1 hp
      have h2 : (upd (upd H j (jar a b (c + 1))) p (.tup [.int (a / t), .int (a % t)])) j = some (jar a b (c + 1)) := by rw [upd_ne hjp]; exact h1
      refine ⟨p, _, rfl, SqT.of upd_same, rfl, _, _, rfl, _, rfl, j, _, 0, 0, rfl, rfl, h2, rfl, _, _, rfl, rfl, _, rfl, ?_⟩
      have e3 : upd (upd (upd H j (jar a b (c + 1))) p (.tup [.int (a / t), .int (a % t)])) j (.lst (([.int a, .int b, .int (c + 1)] : List V).set 0 (.int (a / t)))) = upd (upd (upd H j (jar a b (c + 1))) p (.tup [.int (a / t), .int (a % t)])) j (jar (a / t) b (c + 1)) := rfl
      rw [e3]
      refine k _ _ ⟨_, _, _, upd_same⟩ ?_ (Int.emod_nonneg _ (by omega)) (Int.emod_lt_of_pos _ ht)
      exact ((But.at_j j H _).trans (.of (same_new hp))).trans (But.at_j j _ _)
    · refine ⟨_, rfl, j, _, 1, _, rfl, rfl, s1, rfl, _, _, rfl, rfl, .inr ⟨by decide, by decide⟩, _, rfl, j, _, 2, _, rfl, rfl, s1, rfl, _, _, rfl, rfl, .inl ⟨by decide, by decide⟩, _, _, rfl, rfl, .inl ⟨_, rfl, _, _, rfl, rfl, (by show (0 : Int) < 2147483399; decide), _, rfl, j, _, 1, 1, rfl, rfl, h1, rfl, ?_⟩⟩
      have e2 : upd (upd H j (jar a b (c + 1))) j (.lst (([.int a, .int b, .int (c + 1)] : List V).set 1 (.int ((b * 48271 + 30011 * (c + 1)) % 2147483399)))) = upd H j (jar a ((b * 48271 + 30011 * (c + 1)) % 2147483399) (c + 1)) := upd_upd
      rw [e2]
      refine ⟨_, rfl, j, _, 1, _, rfl, rfl, SqL.of upd_same, rfl, _, _, rfl, rfl, ⟨by decide, by decide⟩, .inl ⟨_, rfl, _, rfl, _, _, rfl, rfl, ht, ?_⟩⟩
      exact k _ _ ⟨_, _, _, upd_same⟩ (But.at_j j H _) (Int.emod_nonneg _ (by omega)) (Int.emod_lt_of_pos _ ht)
/-! ### one of some things -/
def spOne : Sp := fun vs H Q _ => ∃ (j l : Addr) (xs : List V), vs = [.ref j, .ref l] ∧ JarAt H j ∧ H l = some (.lst xs) ∧ l ≠ j ∧ 0 < xs.length ∧ xs.length < 1000 ∧
  ∀ (v : V) (H' : Hp), v ∈ xs → JarAt H' j → But j H H' → Q v H'
abbrev sc_law_one_of_N : List Str := ["_law_jar_here", "_law_some"]
theorem sc_law_one_of : FnScope sc_law_one_of_N ["_law_jar_here", "_law_some"] (defScope s_law_one_of) := ⟨rfl, rfl, rfl, by decide +kernel, rfl, by decide +kernel, by decide +kernel⟩
theorem ok_one (F : FnP K "_law_one_of" s_law_one_of f fd) (T : Tx P w K mg base) (C_law_dip : Cal P w K mg base 1 "_law_dip" spDip []) : FnOk P w K mg base CX0 2 f fd ["_law_jar_here", "_law_some"] spOne := by
  refine F.ok sc_law_one_of (fun vs H Q E h => ?_) (fun cdv A outer s H vs Q E hr h => ?_)
  · obtain ⟨j, l, xs, rfl, _⟩ := h
    rfl
  · obtain ⟨j, l, xs, rfl, hj, hl, hne, h0, h1, k⟩ := h
    refine ⟨_, PSs.nox (pss_one (ps_ret (pe_ix ix_list (pv 1) (pe_c C_law_dip hr (by decide) rfl (pa_cons (pv 0) (pa_cons (pe_callB call_len_seq (by rfl) T.n_len PySem.boot_len (pa_cons (pv 1) pa_nil)) pa_nil))) (fun _ _ => rfl)))), ?_⟩
    refine ⟨_, rfl, _, rfl, _, rfl, l, _, rfl, .inl (SqL.of hl), j, _, rfl, hj, by omega, by omega, fun d H' hj' hb hd0 hd1 => ?_⟩
    have hl' : H' l = some (.lst xs) := hb l _ hne hl
    have lt : d.toNat < xs.length := by omega
    refine ⟨l, xs, d, xs[d.toNat], rfl, rfl, SqL.of hl', ?_, k _ H' (List.getElem_mem lt) hj' hb⟩
    have e := atI_nat (xs := xs) (j := d.toNat) (List.getElem?_eq_getElem lt)
    rw [Int.toNat_of_nonneg hd0] at e
    exact e
/-! ### a turn's jar -/
def spJar (K : PySem.W.Frag) : Sp := fun vs H Q _ => ∃ (a : Addr) (ns : List Int) (t : Int), vs = [.ref a, .int t] ∧ SqL K H a (ns.map V.int) ∧ ns.length ≤ 63 ∧ 0 ≤ t ∧ t < 1000 ∧
  ∀ (p : Addr) (H' : Hp), H p = none → Same H H' → JarAt H' p → Q (.ref p) H'
theorem cut_ints (ns : List Int) (m : Int) : ∀ (i : Nat) (x : V), (cutV (ns.map V.int) none (some 5) ++ [V.int m])[i]? = some x → ∃ z, x = .int z := fun i x h => by
  have hm := List.mem_of_getElem? h
  rcases List.mem_append.mp hm with h1 | h1
  · have h2 : x ∈ ns.map V.int := List.mem_of_mem_drop (List.mem_of_mem_take h1)
    obtain ⟨z, _, e⟩ := List.mem_map.mp h2
    exact ⟨z, e.symm⟩
  · exact ⟨m, by simpa using h1⟩
abbrev sc_law_jar_N : List Str := ["_law_cells", "_law_turn", "_law_cell", "_law_mixed", "_law_each"]
theorem sc_law_jar : FnScope sc_law_jar_N ["_law_cells", "_law_turn"] (defScope s_law_jar) := ⟨rfl, rfl, rfl, by decide +kernel, rfl, by decide +kernel, by decide +kernel⟩
theorem ok_jar (F : FnP K "_law_jar" s_law_jar f fd) (T : Tx P w K mg base) : FnOk P w K mg base CX0 1 f fd ["_law_cells", "_law_turn"] (spJar K) := by
  refine F.ok sc_law_jar (fun vs H Q E h => ?_) (fun cdv A outer s H vs Q E hr h => ?_)
  · obtain ⟨a, ns, t, rfl, _⟩ := h
    rfl
  · obtain ⟨a, ns, t, rfl, ha, hl, h0, h1, k⟩ := h
    refine ⟨_, PSs.nox (pss_cons (ps_set (i := 2) sc_law_jar.nd rfl (.inl rfl) (pe_ifExp (pt_cmpR op_lt (pv 1) (pe_callB call_len_seq (by rfl) T.n_len PySem.boot_len (pa_cons (pv 0) pa_nil)) (nomark _)) (pe_ix ix_list (pv 0) (pv 1) (fun _ _ => rfl)) (pe_op op_add (pe_op op_mul pe_int (pv 1)) pe_int)))
  (pss_cons (ps_set (i := 3) sc_law_jar.nd rfl (.inl rfl) (pe_op op_add pe_int (pe_op op_mul pe_int (pv 1))))
  (pss_cons (ps_for PassesOwn.never rfl (pi_list (pe_op op_cat (pe_slice sl_list (pv 0) po_none (po_some pe_int)) (pe_lst (pa_cons (pv 2) pa_nil)))) (pg_name (i := 4) sc_law_jar.nd rfl (.inl rfl))
  (pss_one (ps_set (i := 3) sc_law_jar.nd rfl (.inl rfl) (pe_op op_mod (pe_callTy call_int1 (by rfl) T.n_int (by decide +kernel) (pa_cons (pe_op op_add (pe_op op_mul (pv 3) pe_int) (pv 4)) pa_nil)) pe_int))))
  (pss_one (ps_ret (pe_lst (pa_cons (pe_ifExp (PW.pt (pw_or (pt_cmpR op_lt (pv 2) pe_int (nomark _)) (pw_or1 (pt_cmpR op_ge (pv 2) (pe_op op_pow pe_int pe_int) (nomark _))))) (pe_callB call_abs (by rfl) T.n_abs (by decide +kernel) (pa_cons (pv 2) pa_nil)) pe_int) (pa_cons (pv 3) (pa_cons pe_int pa_nil))))))))), ?_⟩
    have lenm : (ns.map V.int).length = ns.length := List.length_map _
    -- the cell of the turn
    obtain ⟨m, hm⟩ : ∃ m : Int, m = if t < (ns.length : Int) then ns.getD t.toNat 0 else 11 * t + 4 := ⟨_, rfl⟩
    refine q_asg (v := .int m) (ev_if (b := decide (t < ((ns.map V.int).length : Int))) (et_test (ev_op (ev_var rfl) (ev_len (ev_var rfl) ha) rv_I0)) (fun hb => ?_) (fun hb => ?_)) fun H1 e1 => ?_
    · have lt : t < (ns.length : Int) := by rw [lenm] at hb; exact of_decide_eq_true hb
      rw [if_pos lt] at hm
      refine ev_op (ev_var rfl) (ev_var rfl) (rv_ixL ha ?_)
      have lt2 : t.toNat < ns.length := by omega
      have e := atI_nat (xs := ns.map V.int) (j := t.toNat) (v := .int m) (by rw [List.getElem?_map, List.getElem?_eq_getElem lt2, hm, List.getD_eq_getElem?_getD, List.getElem?_eq_getElem lt2]; rfl)
      rw [Int.toNat_of_nonneg h0] at e
      exact e
    · have ge : ¬ t < (ns.length : Int) := by rw [lenm] at hb; exact of_decide_eq_false hb
      rw [if_neg ge] at hm
      rw [hm]
      exact ev_op (ev_op ev_c (ev_var rfl) (rv_I (.inl ⟨by decide, by decide⟩))) ev_c rv_I0
    refine q_asg (ev_op ev_c (ev_op ev_c (ev_var rfl) (rv_I (.inl ⟨by decide, by decide⟩))) rv_I0) fun H2 e2 => ?_
    have ha2 : SqL K H2 a (ns.map V.int) := ex_l (e1.trans e2) ha
    have lcut : (cutV (ns.map V.int) none (some 5)).length ≤ 63 := by
      unfold cutV
      rw [List.length_take, List.length_drop, lenm]
      omega
    refine q_forNLn (xs := cutV (ns.map V.int) none (some 5) ++ [V.int m]) (el_catLL (el_sl (ev_var rfl) eo_none (eo_some ev_c) ha2) (el_lst (ea_cons (ev_var rfl) ea_nil) (Nat.le_of_ble_eq_true rfl)) (by show _ + 1 ≤ 100000; omega))
      (fun p i σ' H' => ∃ (z : Int) (v : Option V), σ' = [some (.ref a), some (.int t), some (.int m), some (.int z), v] ∧ Ex H2 H' ∧ H' p = some (.lst (cutV (ns.map V.int) none (some 5) ++ [V.int m])))
      (fun p H3 _ e3 h3 => ⟨_, none, rfl, e3, h3⟩) (fun p i σ' H' _ ⟨_, _, _, _, h3⟩ => sq_of h3) ?_ ?_
    · rintro p i x σ' H' hi ⟨z, v, rfl, e3, h3⟩
      obtain ⟨y, rfl⟩ := cut_ints ns m i x hi
      refine s_asg (ev_op (ev_cb (z := .int (z * 28411 + y)) (ea_cons (ev_op (ev_op (ev_var rfl) ev_c (rv_I (.inr ⟨by decide, by decide⟩))) (ev_var rfl) rv_I0) ea_nil) fun H1 _ Q q => .inl ⟨_, rfl, q H1 (Ex.refl H1)⟩) ev_c (rv_I (by show (0 : Int) < 2147483087; decide))) fun H4 e4 => ?_
      exact ⟨_, _, rfl, e3.trans e4, e4 _ _ h3⟩
    · rintro p σ' H' ⟨z, v, rfl, e3, h3⟩
      refine s_retL (el_lst (ea_cons (ev_if (b := decide (m < 0) || decide ((10 : Int) ^ (18 : Int).toNat ≤ m)) (v := .int (if (decide (m < 0) || decide ((10 : Int) ^ (18 : Int).toNat ≤ m)) = true then (if m < 0 then -m else m) else 0))
        (et_or (et_test (ev_op (ev_var rfl) ev_c rv_I0)) (fun _ => et_test (ev_op (ev_var rfl) (ev_op ev_c ev_c (rv_I ⟨by decide, by decide, by decide⟩)) rv_I0)))
        (fun hb => ev_is (ev_cb (z := .int (if m < 0 then -m else m)) (ea_cons (ev_var rfl) ea_nil) fun H1 _ Q q => ⟨_, rfl, q H1 (Ex.refl H1)⟩) (by rw [if_pos hb])) (fun hb => ev_is ev_c (by rw [hb]; rfl)))
        (ea_cons (ev_var rfl) (ea_cons ev_c ea_nil))) (Nat.le_of_ble_eq_true rfl)) fun q H4 hq e4 h4 => ?_
      exact k q H4 (fresh_back ((e1.trans e2).trans e3) hq) (((e1.trans e2).trans e3).trans e4) ⟨_, _, _, h4⟩
end
end K01
end
section
set_option Elab.async false
set_option linter.all false
set_option maxRecDepth 100000
set_option maxHeartbeats 4000000
namespace K01
open PySem PySem.Spec PyProof.Rows L2 XV RP GL
open C8 (Cal pe_c pe_gc)
open Evl EX
/-- the numbers that the answers give -/
def sortsOf (bs : List Bool) : List Int := ((List.range 23).filter fun k => bs.getD k false).map (fun k : Nat => (k : Int)) ++ ((List.range 6).filter fun k => bs.getD (23 + k) false).map fun k : Nat => (50 + k : Int)
def spSorts (K : PySem.W.Frag) : Sp := fun vs H Q _ => ∃ (a C : Addr) (b : Bs) (bs : List Bool), vs = [.ref a] ∧ XC K C b ∧ XnAt H a C ∧ (∀ (i : Nat) (c : Value), (tc K)[i]? = some c → PySem.W.kitOne K (.ref C) c = some (bs.getD i false)) ∧
  ∀ (p : Addr) (H' : Hp), Ex H H' → H' p = some (.lst ((sortsOf bs).map V.int)) → H p = none → Q (.ref p) H'
theorem ev_isx {K : PySem.W.Frag} {σ : L2.St} {H : Hp} {i : Nat} {a C : Addr} {b : Bs} {c : V} {u : Value} {r : Bool} (hC : XC K C b) (x : XnAt H a C) (h : σ[i]? = some (some (.ref a))) (cv : ClsV c u) (hk : PySem.W.kitOne K (.ref C) u = some r) :
    Ev (tCB (rIsx K) (tCons (tVar i) (tCons (tC c) tNil))) σ H (.bl r) := ev_cb (ea_cons (ev_var h) (ea_cons ev_c ea_nil)) fun H1 e Q q => ⟨a, C, b, c, u, r, rfl, hC, x.on e, cv, hk, q H1 (Ex.refl H1)⟩
section
variable {P : Program} {w : World} {K : PySem.W.Frag} {mg : Str → Option Value} {base : Heap} {f : Addr} {fd : FuncData}
abbrev sc_law_sorts_N : List Str := ["_law_e", "_law_found", "_law_above", "_law_k"]
theorem sc_law_sorts : FnScope sc_law_sorts_N ["_law_e"] (defScope s_law_sorts) := ⟨rfl, rfl, rfl, by decide +kernel, rfl, by decide +kernel, by decide +kernel⟩
theorem ok_sorts (F : FnP K "_law_sorts" s_law_sorts f fd) (T : Tx P w K mg base) : FnOk P w K mg base CX0 1 f fd ["_law_e"] (spSorts K) := by
  refine F.ok sc_law_sorts (fun vs H Q E h => ?_) (fun cdv A outer s H vs Q E hr h => ?_)
  · obtain ⟨a, C, b, bs, rfl, _⟩ := h
    rfl
  · obtain ⟨a, C, b, bs, rfl, hC, x0, hk, k⟩ := h
    refine ⟨_, PSs.nox (pss_cons (ps_set (i := 1) sc_law_sorts.nd rfl (.inr rfl) (pe_lst (pa_cons (pe_callB call_isx (by rfl) T.n_isinstance (by decide +kernel) (pa_cons (pv 0) (pa_cons (pe_gc (by rfl) T.c_InvalidText) pa_nil))) (pa_cons (pe_callB call_isx (by rfl) T.n_isinstance (by decide +kernel) (pa_cons (pv 0) (pa_cons (pe_gc (by rfl) T.c_InvalidName) pa_nil))) (pa_cons (pe_callB call_isx (by rfl) T.n_isinstance (by decide +kernel) (pa_cons (pv 0) (pa_cons (pe_gc (by rfl) T.c_InvalidKind) pa_nil))) pa_nil)))))
  (pss_cons (ps_set (i := 1) sc_law_sorts.nd rfl (.inr rfl) (pe_op op_cat (pv 1) (pe_lst (pa_cons (pe_callB call_isx (by rfl) T.n_isinstance (by decide +kernel) (pa_cons (pv 0) (pa_cons (pe_gc (by rfl) T.c_InvalidWish) pa_nil))) (pa_cons (pe_callB call_isx (by rfl) T.n_isinstance (by decide +kernel) (pa_cons (pv 0) (pa_cons (pe_gc (by rfl) T.c_InvalidIndex) pa_nil))) (pa_cons (pe_callB call_isx (by rfl) T.n_isinstance (by decide +kernel) (pa_cons (pv 0) (pa_cons (pe_gc (by rfl) T.c_InvalidNumber) pa_nil))) pa_nil))))))
  (pss_cons (ps_set (i := 1) sc_law_sorts.nd rfl (.inr rfl) (pe_op op_cat (pv 1) (pe_lst (pa_cons (pe_callB call_isx (by rfl) T.n_isinstance (by decide +kernel) (pa_cons (pv 0) (pa_cons (pe_gc (by rfl) T.c_InvalidLine) pa_nil))) (pa_cons (pe_callB call_isx (by rfl) T.n_isinstance (by decide +kernel) (pa_cons (pv 0) (pa_cons (pe_gc (by rfl) T.c_NotATable) pa_nil))) (pa_cons (pe_callB call_isx (by rfl) T.n_isinstance (by decide +kernel) (pa_cons (pv 0) (pa_cons (pe_gc (by rfl) T.c_InvalidColumns) pa_nil))) pa_nil))))))
  (pss_cons (ps_set (i := 1) sc_law_sorts.nd rfl (.inr rfl) (pe_op op_cat (pv 1) (pe_lst (pa_cons (pe_callB call_isx (by rfl) T.n_isinstance (by decide +kernel) (pa_cons (pv 0) (pa_cons (pe_gc (by rfl) T.c_InvalidValues) pa_nil))) (pa_cons (pe_callB call_isx (by rfl) T.n_isinstance (by decide +kernel) (pa_cons (pv 0) (pa_cons (pe_gc (by rfl) T.c_InvalidCells) pa_nil))) (pa_cons (pe_callB call_isx (by rfl) T.n_isinstance (by decide +kernel) (pa_cons (pv 0) (pa_cons (pe_gc (by rfl) T.c_InvalidLost) pa_nil))) pa_nil))))))
  (pss_cons (ps_set (i := 1) sc_law_sorts.nd rfl (.inr rfl) (pe_op op_cat (pv 1) (pe_lst (pa_cons (pe_callB call_isx (by rfl) T.n_isinstance (by decide +kernel) (pa_cons (pv 0) (pa_cons (pe_gc (by rfl) T.c_InvalidNames) pa_nil))) (pa_cons (pe_callB call_isx (by rfl) T.n_isinstance (by decide +kernel) (pa_cons (pv 0) (pa_cons (pe_gc (by rfl) T.c_InvalidRounds) pa_nil))) (pa_cons (pe_callB call_isx (by rfl) T.n_isinstance (by decide +kernel) (pa_cons (pv 0) (pa_cons (pe_gc (by rfl) T.c_InvalidDeeds) pa_nil))) pa_nil))))))
  (pss_cons (ps_set (i := 1) sc_law_sorts.nd rfl (.inr rfl) (pe_op op_cat (pv 1) (pe_lst (pa_cons (pe_callB call_isx (by rfl) T.n_isinstance (by decide +kernel) (pa_cons (pv 0) (pa_cons (pe_gc (by rfl) T.c_UnknownName) pa_nil))) (pa_cons (pe_callB call_isx (by rfl) T.n_isinstance (by decide +kernel) (pa_cons (pv 0) (pa_cons (pe_gc (by rfl) T.c_NotLost) pa_nil))) (pa_cons (pe_callB call_isx (by rfl) T.n_isinstance (by decide +kernel) (pa_cons (pv 0) (pa_cons (pe_gc (by rfl) T.c_NotRight) pa_nil))) pa_nil))))))
  (pss_cons (ps_set (i := 1) sc_law_sorts.nd rfl (.inr rfl) (pe_op op_cat (pv 1) (pe_lst (pa_cons (pe_callB call_isx (by rfl) T.n_isinstance (by decide +kernel) (pa_cons (pv 0) (pa_cons (pe_gc (by rfl) T.c_NotBack) pa_nil))) (pa_cons (pe_callB call_isx (by rfl) T.n_isinstance (by decide +kernel) (pa_cons (pv 0) (pa_cons (pe_gc (by rfl) T.c_NotReady) pa_nil))) (pa_cons (pe_callB call_isx (by rfl) T.n_isinstance (by decide +kernel) (pa_cons (pv 0) (pa_cons (pe_gc (by rfl) T.c_Broken) pa_nil))) (pa_cons (pe_callB call_isx (by rfl) T.n_isinstance (by decide +kernel) (pa_cons (pv 0) (pa_cons (pe_gc (by rfl) T.c_InUse) pa_nil))) pa_nil)))))))
  (pss_cons (ps_expr (pe_bm PySem.F.plainAttrs_list PySem.F.slot_list_append PySem.F.type_list_append mt_append (pv 1) (pa_cons (pe_callB call_isx (by rfl) T.n_isinstance (by decide +kernel) (pa_cons (pv 0) (pa_cons (pe_gc (by rfl) T.c_NothingToUndo) pa_nil))) pa_nil)))
  (pss_cons (ps_set (i := 2) sc_law_sorts.nd rfl (.inr rfl) (pe_lst (pa_cons (pe_callB call_isx (by rfl) T.n_isinstance (by decide +kernel) (pa_cons (pv 0) (pa_cons (pe_gc (by rfl) T.c_WrongValue) pa_nil))) (pa_cons (pe_callB call_isx (by rfl) T.n_isinstance (by decide +kernel) (pa_cons (pv 0) (pa_cons (pe_gc (by rfl) T.c_WrongName) pa_nil))) (pa_cons (pe_callB call_isx (by rfl) T.n_isinstance (by decide +kernel) (pa_cons (pv 0) (pa_cons (pe_gc (by rfl) T.c_NoAnswer) pa_nil))) pa_nil)))))
  (pss_cons (ps_set (i := 2) sc_law_sorts.nd rfl (.inr rfl) (pe_op op_cat (pv 2) (pe_lst (pa_cons (pe_callB call_isx (by rfl) T.n_isinstance (by decide +kernel) (pa_cons (pv 0) (pa_cons (pe_bltn (v := .ty "ValueError") (by rfl) T.n_ValueError (by decide +kernel) rfl) pa_nil))) (pa_cons (pe_callB call_isx (by rfl) T.n_isinstance (by decide +kernel) (pa_cons (pv 0) (pa_cons (pe_bltn (v := .ty "LookupError") (by rfl) T.n_LookupError (by decide +kernel) rfl) pa_nil))) (pa_cons (pe_callB call_isx (by rfl) T.n_isinstance (by decide +kernel) (pa_cons (pv 0) (pa_cons (pe_bltn (v := .ty "ArithmeticError") (by rfl) T.n_ArithmeticError (by decide +kernel) rfl) pa_nil))) pa_nil))))))
  (pss_one (ps_ret (pe_op op_cat (pe_lc (own := [("_law_k", 3)]) (g := gName 3) rfl sc_law_sorts.nd (pi_range1 rfl T.n_range (pa_cons pe_int pa_nil)) (blkOk_by (own := [("_law_k", 3)]) (N := sc_law_sorts_N) (sc := defScope s_law_sorts) (by decide +kernel)) (fun _ _ _ _ _ => (pg_name (i := 3) sc_law_sorts.nd rfl (.inl rfl))) (fun _ _ _ _ _ => (pts_one (pt_val (pe_ix (r := rIxL K) ix_list (pv 1) (pv 3) (fun _ _ => rfl))))) (fun _ _ _ _ _ => (pv 3))) (pe_lc (own := [("_law_k", 3)]) (g := gName 3) rfl sc_law_sorts.nd (pi_range1 rfl T.n_range (pa_cons pe_int pa_nil)) (blkOk_by (own := [("_law_k", 3)]) (N := sc_law_sorts_N) (sc := defScope s_law_sorts) (by decide +kernel)) (fun _ _ _ _ _ => (pg_name (i := 3) sc_law_sorts.nd rfl (.inl rfl))) (fun _ _ _ _ _ => (pts_one (pt_val (pe_ix (r := rIxL K) ix_list (pv 2) (pv 3) (fun _ _ => rfl))))) (fun _ _ _ _ _ => (pe_op op_add pe_int (pv 3))))))))))))))))), ?_⟩
    refine q_asgL (el_lst (ea_cons (ev_isx hC x0 rfl (.own _) (hk 0 _ rfl)) (ea_cons (ev_isx hC x0 rfl (.own _) (hk 1 _ rfl)) (ea_cons (ev_isx hC x0 rfl (.own _) (hk 2 _ rfl)) ea_nil))) (Nat.le_of_ble_eq_true rfl)) fun p0 H0 n0 e0 h0 => ?_
    have x1 := x0.on e0
    refine q_asgL (el_catV (ev_var rfl) h0 (el_lst (ea_cons (ev_isx hC x1 rfl (.own _) (hk 3 _ rfl)) (ea_cons (ev_isx hC x1 rfl (.own _) (hk 4 _ rfl)) (ea_cons (ev_isx hC x1 rfl (.own _) (hk 5 _ rfl)) ea_nil))) (Nat.le_of_ble_eq_true rfl)) (Nat.le_of_ble_eq_true rfl)) fun p1 H1 n1 e1 h1 => ?_
    have x2 := x1.on e1
    refine q_asgL (el_catV (ev_var rfl) h1 (el_lst (ea_cons (ev_isx hC x2 rfl (.own _) (hk 6 _ rfl)) (ea_cons (ev_isx hC x2 rfl (.own _) (hk 7 _ rfl)) (ea_cons (ev_isx hC x2 rfl (.own _) (hk 8 _ rfl)) ea_nil))) (Nat.le_of_ble_eq_true rfl)) (Nat.le_of_ble_eq_true rfl)) fun p2 H2 n2 e2 h2 => ?_
    have x3 := x2.on e2
    refine q_asgL (el_catV (ev_var rfl) h2 (el_lst (ea_cons (ev_isx hC x3 rfl (.own _) (hk 9 _ rfl)) (ea_cons (ev_isx hC x3 rfl (.own _) (hk 10 _ rfl)) (ea_cons (ev_isx hC x3 rfl (.own _) (hk 11 _ rfl)) ea_nil))) (Nat.le_of_ble_eq_true rfl)) (Nat.le_of_ble_eq_true rfl)) fun p3 H3 n3 e3 h3 => ?_
    have x4 := x3.on e3
    refine q_asgL (el_catV (ev_var rfl) h3 (el_lst (ea_cons (ev_isx hC x4 rfl (.own _) (hk 12 _ rfl)) (ea_cons (ev_isx hC x4 rfl (.own _) (hk 13 _ rfl)) (ea_cons (ev_isx hC x4 rfl (.own _) (hk 14 _ rfl)) ea_nil))) (Nat.le_of_ble_eq_true rfl)) (Nat.le_of_ble_eq_true rfl)) fun p4 H4 n4 e4 h4 => ?_
    have x5 := x4.on e4
    refine q_asgL (el_catV (ev_var rfl) h4 (el_lst (ea_cons (ev_isx hC x5 rfl (.own _) (hk 15 _ rfl)) (ea_cons (ev_isx hC x5 rfl (.own _) (hk 16 _ rfl)) (ea_cons (ev_isx hC x5 rfl (.own _) (hk 17 _ rfl)) ea_nil))) (Nat.le_of_ble_eq_true rfl)) (Nat.le_of_ble_eq_true rfl)) fun p5 H5 n5 e5 h5 => ?_
    have x6 := x5.on e5
    refine q_asgL (el_catV (ev_var rfl) h5 (el_lst (ea_cons (ev_isx hC x6 rfl (.own _) (hk 18 _ rfl)) (ea_cons (ev_isx hC x6 rfl (.own _) (hk 19 _ rfl)) (ea_cons (ev_isx hC x6 rfl (.own _) (hk 20 _ rfl)) (ea_cons (ev_isx hC x6 rfl (.own _) (hk 21 _ rfl)) ea_nil)))) (Nat.le_of_ble_eq_true rfl)) (Nat.le_of_ble_eq_true rfl)) fun p6 H6 n6 e6 h6 => ?_
    have x7 := x6.on e6
    refine q_app h6 (ev_var rfl) (ev_isx hC x7 rfl (.own _) (hk 22 _ rfl)) (Nat.le_of_ble_eq_true rfl) fun H7 e7 => ?_
    have np6 : H p6 = none := fresh_back ((((((e0.trans e1).trans e2).trans e3).trans e4).trans e5)) n6
    have e8 : Ex H (upd H7 p6 (.lst ((List.range 23).map fun k => V.bl (bs.getD k false)))) := Ex.mut (((((((e0.trans e1).trans e2).trans e3).trans e4).trans e5).trans e6).trans e7) np6
    have h8 : (upd H7 p6 (.lst ((List.range 23).map fun k => V.bl (bs.getD k false)))) p6 = some (.lst ((List.range 23).map fun k => V.bl (bs.getD k false))) := upd_same
    show tSeq _ _ _ _ (upd H7 p6 (.lst ((List.range 23).map fun k => V.bl (bs.getD k false))))
    generalize upd H7 p6 (.lst ((List.range 23).map fun k => V.bl (bs.getD k false))) = H8 at e8 h8 ⊢
    have x8 := x0.on e8
    refine q_asgL (el_lst (ea_cons (ev_isx hC x8 rfl (.own _) (hk 23 _ rfl)) (ea_cons (ev_isx hC x8 rfl (.own _) (hk 24 _ rfl)) (ea_cons (ev_isx hC x8 rfl (.own _) (hk 25 _ rfl)) ea_nil))) (Nat.le_of_ble_eq_true rfl)) fun q1 H9 m1 e9 h9 => ?_
    have x9 := x8.on e9
    refine q_asgL (el_catV (ev_var rfl) h9 (el_lst (ea_cons (ev_isx hC x9 rfl (.ty _) (hk 26 _ rfl)) (ea_cons (ev_isx hC x9 rfl (.ty _) (hk 27 _ rfl)) (ea_cons (ev_isx hC x9 rfl (.ty _) (hk 28 _ rfl)) ea_nil))) (Nat.le_of_ble_eq_true rfl)) (Nat.le_of_ble_eq_true rfl)) fun q2 H10 m2 e10 h10 => ?_
    have h10' : H10 q2 = some (.lst ((List.range 6).map fun k => V.bl (bs.getD (23 + k) false))) := h10
    have h8' := e10 _ _ (e9 _ _ h8)
    refine s_retL (el_catLL (el_lcR1 (n := 23) (fun k => bs.getD k false) (fun k => V.int (k : Int)) (ea_cons ev_c ea_nil) (by decide) (fun _ => rfl) (fun i H1 e hi => et_B (ev_op (ev_var rfl) (ev_var rfl) (rv_ixL (sq_of (e _ _ h8')) (atI_nat (by rw [List.getElem?_map, List.getElem?_range (by omega)]; rfl))))) (fun i H1 e hi _ => ev_var rfl))
      (el_lcR1 (n := 6) (fun k => bs.getD (23 + k) false) (fun k => V.int (50 + (k : Int))) (ea_cons ev_c ea_nil) (by decide) (fun _ => rfl) (fun i H1 e hi => et_B (ev_op (ev_var rfl) (ev_var rfl) (rv_ixL (sq_of (e _ _ h10')) (atI_nat (by rw [List.getElem?_map, List.getElem?_range (by omega)]; rfl))))) (fun i H1 e hi _ => ev_op ev_c (ev_var rfl) rv_I0)) ?_) fun r H11 hr e11 h11 => ?_
    · have l1 := given_len 23 (fun k => bs.getD k false) (fun k => V.int (k : Int))
      have l2 := given_len 6 (fun k => bs.getD (23 + k) false) (fun k => V.int (50 + (k : Int)))
      have z1 : (23 : Int).toNat = 23 := rfl
      have z2 : (6 : Int).toNat = 6 := rfl
      rw [z1, z2]
      omega
    · refine k r H11 (((e8.trans e9).trans e10).trans e11) ?_ (fresh_back ((e8.trans e9).trans e10) hr)
      rw [h11]
      unfold sortsOf given
      rw [List.map_append, List.map_map, List.map_map]
      rfl
end
end K01
end
section
set_option Elab.async false
set_option linter.all false
set_option maxRecDepth 100000
set_option maxHeartbeats 4000000
namespace K01
open PySem PySem.Spec PyProof.Rows L2 XV RP GL
open C8 (Cal pe_c pe_gc)
open Evl EX
/-- a list of two errors of the class at C, their attribute f being v -/
def PairAt (H : Hp) (p C : Addr) (f : Str) (v : V) : Prop := ∃ a b, H p = some (.lst [.ref a, .ref b]) ∧ XvAt H a C f v ∧ XvAt H b C f v
theorem PairAt.ex {H H' : Hp} {p C : Addr} {f : Str} {v : V} (x : PairAt H p C f v) (e : Ex H H') : PairAt H' p C f v := by
  obtain ⟨a, b, h, h1, h2⟩ := x
  exact ⟨a, b, e _ _ h, h1.on e, h2.on e⟩
abbrev Prs (H : Hp) (f : Str) (v : V) : List Addr → List Addr → Prop := Paired fun p C => PairAt H p C f v
theorem Prs.ex {H H' : Hp} {f : Str} {v : V} (e : Ex H H') : ∀ {ps Cs : List Addr}, Prs H f v ps Cs → Prs H' f v ps Cs
  | _, _, .nil => .nil
  | _, _, .cons h t => .cons (h.ex e) (Prs.ex e t)
theorem Prs.app {H : Hp} {f : Str} {v : V} : ∀ {ps Cs qs Ds : List Addr}, Prs H f v ps Cs → Prs H f v qs Ds → Prs H f v (ps ++ qs) (Cs ++ Ds)
  | _, _, _, _, .nil, h => h
  | _, _, _, _, .cons h t, g => .cons h (Prs.app t g)
theorem exo_lst {e C : Addr} {d : Option Addr} {xs : List V} : exo e C d ≠ .lst xs := fun z => by
  have z' : HO.ext _ = HO.lst xs := z
  cases z'
theorem exd_lst {e : Addr} {fs : List (Str × V)} {xs : List V} : exd e fs ≠ .lst xs := fun z => by
  have z' : HO.ext _ = HO.lst xs := z
  cases z'
theorem XvAt.put {H : Hp} {a C l : Addr} {f : Str} {v : V} {xs : List V} {o : HO} (x : XvAt H a C f v) (hl : H l = some (.lst xs)) : XvAt (upd H l o) a C f v := by
  obtain ⟨d, h1, h2⟩ := x
  exact ⟨d, by rw [upd_ne (ne_of h1 hl exo_lst)]; exact h1, by rw [upd_ne (ne_of h2 hl exd_lst)]; exact h2⟩
/-- the list of the pairs is none of them -/
theorem Prs.apart {H : Hp} {p C l : Addr} {f : Str} {v : V} {ps Cs : List Addr} (x : PairAt H p C f v) (hl : H l = some (.lst (ps.map V.ref))) (h : Prs H f v ps Cs) (hne : ps ≠ []) : p ≠ l := fun z => by
  obtain ⟨a, b, h1, ⟨d, h2, _⟩, _⟩ := x
  rw [z, hl] at h1
  cases h with
  | nil => exact hne rfl
  | cons g t =>
    obtain ⟨a', b', g1, _⟩ := g
    have e := HO.lst.inj (Option.some.inj h1)
    rw [List.map_cons] at e
    have e2 := V.ref.inj (List.cons.inj e).1
    rw [e2, h2] at g1
    exact exo_lst (Option.some.inj g1)
theorem PairAt.put {H : Hp} {p C l : Addr} {f : Str} {v : V} {xs : List V} {o : HO} (x : PairAt H p C f v) (hl : H l = some (.lst xs)) (hp : p ≠ l) : PairAt (upd H l o) p C f v := by
  obtain ⟨a, b, h, h1, h2⟩ := x
  exact ⟨a, b, by rw [upd_ne hp]; exact h, XvAt.put h1 hl, XvAt.put h2 hl⟩
theorem Prs.put {H : Hp} {l : Addr} {f : Str} {v : V} {ps Cs : List Addr} {o : HO} (hl : H l = some (.lst (ps.map V.ref))) (h0 : Prs H f v ps Cs) (hne : ps ≠ []) : ∀ {qs Ds : List Addr}, Prs H f v qs Ds → Prs (upd H l o) f v qs Ds
  | _, _, .nil => .nil
  | _, _, .cons h t => .cons (h.put hl (Prs.apart h hl h0 hne)) (Prs.put hl h0 hne t)
/-- evaluates to an object of which P holds -/
def EvE (te : TE) (σ : L2.St) (H : Hp) (P : Hp → Addr → Prop) : Prop := ∀ H1, Ex H H1 → ∀ Q : VK, (∀ a H2, Ex H1 H2 → P H2 a → Q (.ref a) H2) → te σ H1 Q
def EvAs (ta : TA) (σ : L2.St) (H : Hp) (f : Str) (v : V) (Cs : List Addr) : Prop := ∀ H1, Ex H H1 → ∀ Q : List V → Hp → Prop, (∀ ps H2, Ex H1 H2 → Prs H2 f v ps Cs → Q (ps.map V.ref) H2) → ta σ H1 Q
def EvLs (te : TE) (σ : L2.St) (H : Hp) (f : Str) (v : V) (Cs : List Addr) : Prop := ∀ H1, Ex H H1 → ∀ Q : VK, (∀ l ps H2, H1 l = none → Ex H1 H2 → H2 l = some (.lst (ps.map V.ref)) → Prs H2 f v ps Cs → Q (.ref l) H2) → te σ H1 Q
section
variable {K : PySem.W.Frag} {σ : L2.St} {H : Hp} {ta tb te : TE} {t tr : TA} {C : Addr} {f : Str} {v : V} {Cs Ds : List Addr} {D : Ends} {tz : TS}
theorem ep_x (h : EvA t σ H [v]) : EvE (tXv C f t) σ H (fun H a => XvAt H a C f v) := fun H1 e Q q => h H1 e _ fun H2 e2 => ⟨v, rfl, fun a H3 s x => q a H3 (e2.trans s) x⟩
theorem ep_pair (h1 : EvE ta σ H (fun H a => XvAt H a C f v)) (h2 : EvE tb σ H (fun H a => XvAt H a C f v)) : EvE (tLst (tCons ta (tCons tb tNil))) σ H (fun H p => PairAt H p C f v) := fun H1 e Q q =>
  h1 H1 e _ fun a H2 e2 x => h2 H2 (e.trans e2) _ fun b H3 e3 y => ⟨by show 2 ≤ sizeLine; decide, fun p hp => q p _ ((e2.trans e3).trans (Ex.new hp)) ⟨a, b, upd_same, (x.on e3).on (Ex.new hp), y.on (Ex.new hp)⟩⟩
theorem eas_nil : EvAs tNil σ H f v [] := fun H1 _ _ q => q [] H1 (Ex.refl H1) .nil
theorem eas_cons (h : EvE te σ H (fun H p => PairAt H p C f v)) (hr : EvAs tr σ H f v Cs) : EvAs (tCons te tr) σ H f v (C :: Cs) := fun H1 e _ q =>
  h H1 e _ fun p H2 e2 x => hr H2 (e.trans e2) _ fun ps H3 e3 y => q (p :: ps) H3 (e2.trans e3) (.cons (x.ex e3) y)
theorem els_lst (h : EvAs t σ H f v Cs) (hz : Cs.length ≤ 1000) : EvLs (tLst t) σ H f v Cs := fun H1 e _ q =>
  h H1 e _ fun ps H2 e2 x => ⟨by rw [List.length_map, Paired.length x]; exact sz_of (by omega), fun l hl => q l ps _ (fresh_back e2 hl) (e2.trans (Ex.new hl)) upd_same (Prs.ex (Ex.new hl) x)⟩
theorem els_cat {l : Addr} {ps : List Addr} (ha : Ev ta σ H (.ref l)) (hl : H l = some (.lst (ps.map V.ref))) (hp : Prs H f v ps Cs) (hb : EvLs tb σ H f v Ds) (hz : Cs.length ≤ 1000) (hz2 : Ds.length ≤ 1000) : EvLs (tOp rCat ta tb) σ H f v (Cs ++ Ds) := fun H1 e _ q =>
  ha H1 e _ fun H2 e2 => hb H2 (e.trans e2) _ fun r qs H3 hr e3 h3 x => ⟨l, r, ps.map V.ref, qs.map V.ref, rfl, rfl, e3 _ _ (e2 _ _ (e _ _ hl)), h3, by rw [List.length_map, List.length_map, Paired.length hp, Paired.length x]; exact sz_of (by omega), fun m hm =>
    q m (ps ++ qs) _ (fresh_back (e2.trans e3) hm) ((e2.trans e3).trans (Ex.new hm)) (by rw [upd_same, List.map_append]) (Prs.ex (Ex.new hm) (Prs.app (Prs.ex ((e.trans e2).trans e3) hp) x))⟩
theorem qs_asg {i : Nat} (h : EvLs te σ H f v Cs) (k : ∀ l ps H1, H l = none → Ex H H1 → H1 l = some (.lst (ps.map V.ref)) → Prs H1 f v ps Cs → tz D (σ.set i (some (.ref l))) H1) : tSeq (tAsg te (gName i)) tz D σ H := h H (Ex.refl H) _ fun l ps H1 hl e h1 x => k l ps H1 hl e h1 x
theorem ss_ret (h : EvLs te σ H f v Cs) (k : ∀ l ps H1, H l = none → Ex H H1 → H1 l = some (.lst (ps.map V.ref)) → Prs H1 f v ps Cs → D.rt (.ref l) H1) : tRet te D σ H := h H (Ex.refl H) _ fun l ps H1 hl e h1 x => k l ps H1 hl e h1 x
/-- l.append(a pair): l was made here (H0 ahead of it) -/
theorem qs_app {H0 : Hp} {l : Addr} {ps : List Addr} (n0 : H0 l = none) (e0 : Ex H0 H) (hl : H l = some (.lst (ps.map V.ref))) (hp : Prs H f v ps Cs) (hne : ps ≠ []) (hz : Cs.length ≤ 1000) (ha : Ev ta σ H (.ref l)) (h : EvE te σ H (fun H p => PairAt H p C f v))
    (k : ∀ ps' H1, Ex H0 H1 → H1 l = some (.lst (ps'.map V.ref)) → Prs H1 f v ps' (Cs ++ [C]) → ps' ≠ [] → tz D σ H1) : tSeq (tDrop (tBM K "list" rAppend ta (tCons te tNil))) tz D σ H := ha H (Ex.refl H) _ fun H1 e1 =>
  ⟨Or.inl ⟨rfl, _, sq_of (e1 l _ hl)⟩, h H1 e1 _ fun p H2 e2 x => ⟨l, _, .ref p, rfl, rfl, e2 l _ (e1 l _ hl), by rw [List.length_map, Paired.length hp]; exact sz_lt (by omega), by
    have hl2 := e2 l _ (e1 l _ hl)
    have hp2 := Prs.ex (e1.trans e2) hp
    refine k (ps ++ [p]) _ (Ex.mut ((e0.trans e1).trans e2) n0) (by rw [upd_same, List.map_append]; rfl) ?_ (by simp)
    exact Prs.app (Prs.put hl2 hp2 hne hp2) (.cons (x.put hl2 (Prs.apart x hl2 hp2 hne)) .nil)⟩⟩
end
/-- all errors of some classes, each twice -/
def spErr (f : Str) (Cs : List Addr) : Sp := fun vs H Q _ => ∃ v : V, vs = [v] ∧ ∀ (l : Addr) (ps : List Addr) (H' : Hp), H l = none → Ex H H' → H' l = some (.lst (ps.map V.ref)) → Prs H' f v ps Cs → Q (.ref l) H'
theorem ne_nil_of {H : Hp} {f : Str} {v : V} {ps Cs : List Addr} {C : Addr} (h : Prs H f v ps (C :: Cs)) : ps ≠ [] := by
  cases h with
  | cons _ _ => exact List.cons_ne_nil _ _
section
variable {P : Program} {w : World} {K : PySem.W.Frag} {mg : Str → Option Value} {base : Heap} {f : Addr} {fd : FuncData}
abbrev sc_law_given_errors_N : List Str := ["_law_thing", "_law_found"]
theorem sc_law_given_errors : FnScope sc_law_given_errors_N ["_law_thing"] (defScope s_law_given_errors) := ⟨rfl, rfl, rfl, by decide +kernel, rfl, by decide +kernel, by decide +kernel⟩
theorem ok_giv (F : FnP K "_law_given_errors" s_law_given_errors f fd) (T : Tx P w K mg base) : FnOk P w K mg base CX0 3 f fd ["_law_thing"] (spErr "given" [He.ga K "InvalidText", He.ga K "InvalidName", He.ga K "InvalidKind", He.ga K "InvalidWish", He.ga K "InvalidIndex", He.ga K "InvalidNumber", He.ga K "InvalidLine", He.ga K "NotATable"]) := by
  refine F.ok sc_law_given_errors (fun vs H Q E h => ?_) (fun cdv A outer s H vs Q E hr h => ?_)
  · obtain ⟨v, rfl, _⟩ := h
    rfl
  · obtain ⟨v, rfl, k⟩ := h
    have hr2 := hr
    refine ⟨_, PSs.nox (pss_cons (ps_set (i := 1) sc_law_given_errors.nd rfl (.inl rfl) (pe_lst (pa_cons (pe_lst (pa_cons (pe_xp T.d_InvalidText hr2 (pa_cons (pv 0) pa_nil)) (pa_cons (pe_xk T.d_InvalidText hr2 (pk_cons (pv 0) pk_nil)) pa_nil))) (pa_cons (pe_lst (pa_cons (pe_xp T.d_InvalidName hr2 (pa_cons (pv 0) pa_nil)) (pa_cons (pe_xk T.d_InvalidName hr2 (pk_cons (pv 0) pk_nil)) pa_nil))) pa_nil))))
  (pss_cons (ps_set (i := 1) sc_law_given_errors.nd rfl (.inl rfl) (pe_op op_cat (pv 1) (pe_lst (pa_cons (pe_lst (pa_cons (pe_xp T.d_InvalidKind hr2 (pa_cons (pv 0) pa_nil)) (pa_cons (pe_xk T.d_InvalidKind hr2 (pk_cons (pv 0) pk_nil)) pa_nil))) (pa_cons (pe_lst (pa_cons (pe_xp T.d_InvalidWish hr2 (pa_cons (pv 0) pa_nil)) (pa_cons (pe_xk T.d_InvalidWish hr2 (pk_cons (pv 0) pk_nil)) pa_nil))) pa_nil)))))
  (pss_cons (ps_expr (pe_bm PySem.F.plainAttrs_list PySem.F.slot_list_append PySem.F.type_list_append mt_append (pv 1) (pa_cons (pe_lst (pa_cons (pe_xp T.d_InvalidIndex hr2 (pa_cons (pv 0) pa_nil)) (pa_cons (pe_xk T.d_InvalidIndex hr2 (pk_cons (pv 0) pk_nil)) pa_nil))) pa_nil)))
  (pss_cons (ps_expr (pe_bm PySem.F.plainAttrs_list PySem.F.slot_list_append PySem.F.type_list_append mt_append (pv 1) (pa_cons (pe_lst (pa_cons (pe_xp T.d_InvalidNumber hr2 (pa_cons (pv 0) pa_nil)) (pa_cons (pe_xk T.d_InvalidNumber hr2 (pk_cons (pv 0) pk_nil)) pa_nil))) pa_nil)))
  (pss_one (ps_ret (pe_op op_cat (pv 1) (pe_lst (pa_cons (pe_lst (pa_cons (pe_xp T.d_InvalidLine hr2 (pa_cons (pv 0) pa_nil)) (pa_cons (pe_xk T.d_InvalidLine hr2 (pk_cons (pv 0) pk_nil)) pa_nil))) (pa_cons (pe_lst (pa_cons (pe_xp T.d_NotATable hr2 (pa_cons (pv 0) pa_nil)) (pa_cons (pe_xk T.d_NotATable hr2 (pk_cons (pv 0) pk_nil)) pa_nil))) pa_nil)))))))))), ?_⟩
    refine qs_asg (els_lst (eas_cons (ep_pair (ep_x (ea_cons (ev_var rfl) ea_nil)) (ep_x (ea_cons (ev_var rfl) ea_nil))) (eas_cons (ep_pair (ep_x (ea_cons (ev_var rfl) ea_nil)) (ep_x (ea_cons (ev_var rfl) ea_nil))) eas_nil)) (Nat.le_of_ble_eq_true rfl)) fun l0 ps0 H0 n0 e0 h0 x0 => ?_
    refine qs_asg (els_cat (ev_var rfl) h0 x0 (els_lst (eas_cons (ep_pair (ep_x (ea_cons (ev_var rfl) ea_nil)) (ep_x (ea_cons (ev_var rfl) ea_nil))) (eas_cons (ep_pair (ep_x (ea_cons (ev_var rfl) ea_nil)) (ep_x (ea_cons (ev_var rfl) ea_nil))) eas_nil)) (Nat.le_of_ble_eq_true rfl)) (Nat.le_of_ble_eq_true rfl) (Nat.le_of_ble_eq_true rfl)) fun l ps1 H1 n1 e1 h1 x1 => ?_
    have nl : H l = none := fresh_back e0 n1
    refine qs_app nl (e0.trans e1) h1 x1 (ne_nil_of x1) (Nat.le_of_ble_eq_true rfl) (ev_var rfl) (ep_pair (ep_x (ea_cons (ev_var rfl) ea_nil)) (ep_x (ea_cons (ev_var rfl) ea_nil))) fun ps2 H2 e2 h2 x2 ne2 => ?_
    refine qs_app nl e2 h2 x2 ne2 (Nat.le_of_ble_eq_true rfl) (ev_var rfl) (ep_pair (ep_x (ea_cons (ev_var rfl) ea_nil)) (ep_x (ea_cons (ev_var rfl) ea_nil))) fun ps3 H3 e3 h3 x3 ne3 => ?_
    exact ss_ret (els_cat (ev_var rfl) h3 x3 (els_lst (eas_cons (ep_pair (ep_x (ea_cons (ev_var rfl) ea_nil)) (ep_x (ea_cons (ev_var rfl) ea_nil))) (eas_cons (ep_pair (ep_x (ea_cons (ev_var rfl) ea_nil)) (ep_x (ea_cons (ev_var rfl) ea_nil))) eas_nil)) (Nat.le_of_ble_eq_true rfl)) (Nat.le_of_ble_eq_true rfl) (Nat.le_of_ble_eq_true rfl)) fun r ps4 H4 n4 e4 h4 x4 => k r ps4 H4 (fresh_back e3 n4) (e3.trans e4) h4 x4
abbrev sc_law_index_errors_N : List Str := ["_law_thing", "_law_found"]
theorem sc_law_index_errors : FnScope sc_law_index_errors_N ["_law_thing"] (defScope s_law_index_errors) := ⟨rfl, rfl, rfl, by decide +kernel, rfl, by decide +kernel, by decide +kernel⟩
theorem ok_idx (F : FnP K "_law_index_errors" s_law_index_errors f fd) (T : Tx P w K mg base) : FnOk P w K mg base CX0 3 f fd ["_law_thing"] (spErr "index" [He.ga K "InvalidColumns", He.ga K "InvalidValues", He.ga K "InvalidCells", He.ga K "InvalidLost", He.ga K "InvalidNames", He.ga K "InvalidRounds", He.ga K "InvalidDeeds"]) := by
  refine F.ok sc_law_index_errors (fun vs H Q E h => ?_) (fun cdv A outer s H vs Q E hr h => ?_)
  · obtain ⟨v, rfl, _⟩ := h
    rfl
  · obtain ⟨v, rfl, k⟩ := h
    have hr2 := hr
    refine ⟨_, PSs.nox (pss_cons (ps_set (i := 1) sc_law_index_errors.nd rfl (.inl rfl) (pe_lst (pa_cons (pe_lst (pa_cons (pe_xp T.d_InvalidColumns hr2 (pa_cons (pv 0) pa_nil)) (pa_cons (pe_xk T.d_InvalidColumns hr2 (pk_cons (pv 0) pk_nil)) pa_nil))) pa_nil)))
  (pss_cons (ps_expr (pe_bm PySem.F.plainAttrs_list PySem.F.slot_list_append PySem.F.type_list_append mt_append (pv 1) (pa_cons (pe_lst (pa_cons (pe_xp T.d_InvalidValues hr2 (pa_cons (pv 0) pa_nil)) (pa_cons (pe_xk T.d_InvalidValues hr2 (pk_cons (pv 0) pk_nil)) pa_nil))) pa_nil)))
  (pss_cons (ps_expr (pe_bm PySem.F.plainAttrs_list PySem.F.slot_list_append PySem.F.type_list_append mt_append (pv 1) (pa_cons (pe_lst (pa_cons (pe_xp T.d_InvalidCells hr2 (pa_cons (pv 0) pa_nil)) (pa_cons (pe_xk T.d_InvalidCells hr2 (pk_cons (pv 0) pk_nil)) pa_nil))) pa_nil)))
  (pss_cons (ps_expr (pe_bm PySem.F.plainAttrs_list PySem.F.slot_list_append PySem.F.type_list_append mt_append (pv 1) (pa_cons (pe_lst (pa_cons (pe_xp T.d_InvalidLost hr2 (pa_cons (pv 0) pa_nil)) (pa_cons (pe_xk T.d_InvalidLost hr2 (pk_cons (pv 0) pk_nil)) pa_nil))) pa_nil)))
  (pss_cons (ps_expr (pe_bm PySem.F.plainAttrs_list PySem.F.slot_list_append PySem.F.type_list_append mt_append (pv 1) (pa_cons (pe_lst (pa_cons (pe_xp T.d_InvalidNames hr2 (pa_cons (pv 0) pa_nil)) (pa_cons (pe_xk T.d_InvalidNames hr2 (pk_cons (pv 0) pk_nil)) pa_nil))) pa_nil)))
  (pss_cons (ps_expr (pe_bm PySem.F.plainAttrs_list PySem.F.slot_list_append PySem.F.type_list_append mt_append (pv 1) (pa_cons (pe_lst (pa_cons (pe_xp T.d_InvalidRounds hr2 (pa_cons (pv 0) pa_nil)) (pa_cons (pe_xk T.d_InvalidRounds hr2 (pk_cons (pv 0) pk_nil)) pa_nil))) pa_nil)))
  (pss_one (ps_ret (pe_op op_cat (pv 1) (pe_lst (pa_cons (pe_lst (pa_cons (pe_xp T.d_InvalidDeeds hr2 (pa_cons (pv 0) pa_nil)) (pa_cons (pe_xk T.d_InvalidDeeds hr2 (pk_cons (pv 0) pk_nil)) pa_nil))) pa_nil))))))))))), ?_⟩
    refine qs_asg (els_lst (eas_cons (ep_pair (ep_x (ea_cons (ev_var rfl) ea_nil)) (ep_x (ea_cons (ev_var rfl) ea_nil))) eas_nil) (Nat.le_of_ble_eq_true rfl)) fun l ps1 H1 nl e1 h1 x1 => ?_
    refine qs_app nl e1 h1 x1 (ne_nil_of x1) (Nat.le_of_ble_eq_true rfl) (ev_var rfl) (ep_pair (ep_x (ea_cons (ev_var rfl) ea_nil)) (ep_x (ea_cons (ev_var rfl) ea_nil))) fun ps2 H2 e2 h2 x2 ne2 => ?_
    refine qs_app nl e2 h2 x2 ne2 (Nat.le_of_ble_eq_true rfl) (ev_var rfl) (ep_pair (ep_x (ea_cons (ev_var rfl) ea_nil)) (ep_x (ea_cons (ev_var rfl) ea_nil))) fun ps3 H3 e3 h3 x3 ne3 => ?_
    refine qs_app nl e3 h3 x3 ne3 (Nat.le_of_ble_eq_true rfl) (ev_var rfl) (ep_pair (ep_x (ea_cons (ev_var rfl) ea_nil)) (ep_x (ea_cons (ev_var rfl) ea_nil))) fun ps4 H4 e4 h4 x4 ne4 => ?_
    refine qs_app nl e4 h4 x4 ne4 (Nat.le_of_ble_eq_true rfl) (ev_var rfl) (ep_pair (ep_x (ea_cons (ev_var rfl) ea_nil)) (ep_x (ea_cons (ev_var rfl) ea_nil))) fun ps5 H5 e5 h5 x5 ne5 => ?_
    refine qs_app nl e5 h5 x5 ne5 (Nat.le_of_ble_eq_true rfl) (ev_var rfl) (ep_pair (ep_x (ea_cons (ev_var rfl) ea_nil)) (ep_x (ea_cons (ev_var rfl) ea_nil))) fun ps6 H6 e6 h6 x6 ne6 => ?_
    exact ss_ret (els_cat (ev_var rfl) h6 x6 (els_lst (eas_cons (ep_pair (ep_x (ea_cons (ev_var rfl) ea_nil)) (ep_x (ea_cons (ev_var rfl) ea_nil))) eas_nil) (Nat.le_of_ble_eq_true rfl)) (Nat.le_of_ble_eq_true rfl) (Nat.le_of_ble_eq_true rfl)) fun r ps7 H7 n7 e7 h7 x7 => k r ps7 H7 (fresh_back e6 n7) (e6.trans e7) h7 x7
end
end K01
end
section
set_option Elab.async false
set_option linter.all false
set_option maxRecDepth 100000
set_option maxHeartbeats 4000000
namespace K01
open PySem PySem.Spec PyProof.Rows L2 XV RP GL
open C8 (Cal pe_c pe_gc)
open Evl EX RP
section
variable {K : PySem.W.Frag} {H H' : Hp}
mutual
theorem dp_ex (e : Ex H H') : ∀ (d : PyData) (v : V), Dp K H v d → Dp K H' v d
  | .none, _, h => by
    cases h
    exact .non
  | .bool b, _, h => by
    cases h
    exact .bl b
  | .int i, _, h => by
    cases h
    exact .int i
  | .str x, _, h => by
    cases h
    exact .str x
  | .list ds, _, h => by
    cases h with
    | lst hs ha => exact .lst (ex_l e hs) (dpa_ex e ds _ ha)
  | .tuple ds, _, h => by
    cases h with
    | tup hs ha => exact .tup (ex_t e hs) (dpa_ex e ds _ ha)
  | .dict _, _, h => by cases h
theorem dpa_ex (e : Ex H H') : ∀ (ds : List PyData) (vs : List V), DpAll K H vs ds → DpAll K H' vs ds
  | [], _, h => by
    cases h
    exact .nil
  | d :: ds, _, h => by
    cases h with
    | cons h1 h2 => exact .cons (dp_ex e d _ h1) (dpa_ex e ds _ h2)
end
theorem sh_ex {v : V} {d : PyData} (e : Ex H H') (h : Sh K H v d) : Sh K H' v d := by
  cases h with
  | dp h1 h2 => exact .dp (dp_ex e d v h1) h2
  | dic h1 h2 => exact .dic (e _ _ h1) h2
/-- v is shown as z -/
def Shw (K : PySem.W.Frag) (H : Hp) (v : V) (z : Str) : Prop := ∃ d, Sh K H v d ∧ d.showable = true ∧ d.depth ≤ 60 ∧ d.shown.length ≤ 1000 ∧ PyData.strOk d.shown = true ∧ z = d.shown
theorem Shw.ex {v : V} {z : Str} (h : Shw K H v z) (e : Ex H H') : Shw K H' v z := by
  obtain ⟨d, h1, h2⟩ := h
  exact ⟨d, sh_ex e h1, h2⟩
variable {σ : L2.St} {te ta tb : TE} {a C : Addr} {b : Bs} {f : Str} {v : V} {z : Str} {i : Nat}
theorem ev_rep (h : Ev te σ H v) (hs : Shw K H v z) : Ev (tCB (rRepr K) (tCons te tNil)) σ H (.str z) := ev_cb (ea_cons h ea_nil) fun H1 e Q q => by
  obtain ⟨d, h1, h2, h3, h4, _, rfl⟩ := hs
  exact ⟨v, d, rfl, sh_ex e h1, h2, h3, sz_of (by omega), q H1 (Ex.refl H1)⟩
theorem ev_xf (h : Ev te σ H (.ref a)) (hC : XC K C b) (hno : PySem.W.findIn K (.ref C) f = some none) (x : XvAt H a C f v) : Ev (tXf K f te) σ H v := fun H1 e Q q =>
  h H1 e _ fun H2 e2 => ⟨a, C, b, v, rfl, hC, hno, x.on (e.trans e2), q H2 e2⟩
theorem el_sorts {bs : List Bool} {E : XK} (h : Ev te σ H (.ref a)) (hC : XC K C b) (x : XnAt H a C) (hk : ∀ (i : Nat) (c : Value), (tc K)[i]? = some c → PySem.W.kitOne K (.ref C) c = some (bs.getD i false)) :
    EvL (tCall (spSorts K) [] E (tCons te tNil)) σ H ((sortsOf bs).map V.int) := el_call (ea_cons h ea_nil) fun H1 e Q q E => ⟨a, C, b, bs, rfl, hC, x.on e, hk, fun p H2 e2 h2 n => q p H2 n e2 h2⟩
/-- the rows of both, twice the row -/
def rowV (i c d : Int) (z : Str) : List V := [.int i, .int c, .int d, .str z]
def rowD (i c d : Int) (z : Str) : PyData := .list [.int i, .int c, .int d, .str z]
theorem row_dp {p : Addr} {i c d : Int} {z : Str} (h : H p = some (.lst (rowV i c d z))) : Dp K H (.ref p) (rowD i c d z) := .lst (sq_of h) (.cons (.int _) (.cons (.int _) (.cons (.int _) (.cons (.str _) .nil))))
theorem rows_eqv (i c d : Int) (z : Str) : PyData.eqv (.list [rowD i c d z, rowD i c d z]) (.list [rowD i c d z, rowD i c d z]) = true := by
  simp [PyData.eqv, PyData.eqvAll, rowD]
theorem rows_shaped (i c d : Int) {z : Str} (hz : PyData.strOk z = true) : SeqAt.shaped (.list [rowD i c d z, rowD i c d z]) = true := by
  simp [SeqAt.shaped, PyData.canLay0, PyData.canLayAll0, PyData.depth, PyData.depthAll, rowD, hz]
theorem et_rows0 {i c d : Int} {z : Str} {tr tn : TE} (hz : PyData.strOk z = true) (hl : EvLL ta σ H 2 (fun _ => rowV i c d z)) (hrow : EvL tr σ H (rowV i c d z)) (h5 : Ev tn σ H (.int 2)) :
    EvT (tTest (tOp (rNeD K) ta (tOp rRep (tLst (tCons tr tNil)) tn))) σ H false := by
  refine et_test fun H1 e Q q => ?_
  refine hl H1 e _ fun p ps H2 n2 e2 hp hlen hA => ?_
  refine hrow H2 (e.trans e2) _ fun r H3 n3 e3 hr => ⟨sz_of (Nat.le_of_ble_eq_true rfl), fun l hl => ?_⟩
  refine h5 _ ((e.trans e2).trans (e3.trans (Ex.new hl))) _ fun H4 e4 => ⟨l, 2, [.ref r], rfl, rfl, e4 _ _ upd_same, by decide, by decide, sz_of (Nat.le_of_ble_eq_true rfl), fun m hm => ?_⟩
  have E5 : Ex H2 (upd H4 m (.lst (List.replicate (2 : Int).toNat [V.ref r]).flatten)) := ((e3.trans (Ex.new hl)).trans e4).trans (Ex.new hm)
  have E6 : Ex H3 (upd H4 m (.lst (List.replicate (2 : Int).toNat [V.ref r]).flatten)) := ((Ex.new hl).trans e4).trans (Ex.new hm)
  have hr5 := E6 _ _ hr
  have hA5 := AllL.ex E5 hA
  have hp5 := E5 _ _ hp
  obtain ⟨p0, p1, rfl⟩ : ∃ p0 p1, ps = [p0, p1] := by
    match ps, hlen with
    | [p0, p1], _ => exact ⟨p0, p1, rfl⟩
  refine ⟨.list [rowD i c d z, rowD i c d z], .list [rowD i c d z, rowD i c d z], .lst (sq_of hp5) (.cons (row_dp (hA5 0 p0 rfl)) (.cons (row_dp (hA5 1 p1 rfl)) .nil)), .lst (sq_of upd_same) (.cons (row_dp hr5) (.cons (row_dp hr5) .nil)), rows_shaped _ _ _ hz, rows_shaped _ _ _ hz, ?_⟩
  rw [rows_eqv]
  exact q _ (e2.trans E5)
theorem et_rows {i c d : Int} {z : Str} {ti tc td tz tn : TE} (hz : PyData.strOk z = true) (hl : EvLL ta σ H 2 (fun _ => rowV i c d z)) (h1 : Ev ti σ H (.int i)) (h2 : Ev tc σ H (.int c)) (h3 : Ev td σ H (.int d)) (h4 : Ev tz σ H (.str z)) (h5 : Ev tn σ H (.int 2)) :
    EvT (tTest (tOp (rNeD K) ta (tOp rRep (tLst (tCons (tLst (tCons ti (tCons tc (tCons td (tCons tz tNil))))) tNil)) tn))) σ H false := et_rows0 hz hl (el_lst (ea_cons h1 (ea_cons h2 (ea_cons h3 (ea_cons h4 ea_nil)))) (Nat.le_of_ble_eq_true rfl)) h5
/-- what the class at C is to the 29 -/
def bsOf (i k : Nat) : List Bool := (List.range 29).map fun j => decide (j = i) || decide (j = 23 + k) || decide (j = 26 + k)
def Kind (K : PySem.W.Frag) (C : Addr) (b : Bs) (f : Str) (i k : Nat) : Prop := XC K C b ∧ PySem.W.findIn K (.ref C) f = some none ∧ ∀ (j : Nat) (c : Value), (tc K)[j]? = some c → PySem.W.kitOne K (.ref C) c = some ((bsOf i k).getD j false)
/-- [_law_sorts(e) + [repr(e.f)] for e in both], both at slot j, e at slot m -/
theorem el_both {p : Addr} {j m : Nat} {vs : List Nat} {k : Nat} {E : XK} (hj : σ[j]? = some (some (.ref p))) (hp : PairAt H p C f v) (hK : Kind K C b f i k) (hs : Shw K H v z) {n c d : Int} (hi : sortsOf (bsOf i k) = [n, c, d])
    (hw : ∀ x, wipe ((wipe σ vs).set m (some x)) vs = wipe σ vs) (hm : ∀ x, ((wipe σ vs).set m (some x))[m]? = some (some x)) :
    EvLL (tLc (iList K (tVar j)) (gName m) tYes (tOp rCat (tCall (spSorts K) [] E (tCons (tVar m) tNil)) (tLst (tCons (tCB (rRepr K) (tCons (tXf K f (tVar m)) tNil)) tNil))) vs) σ H 2 (fun _ => rowV n c d z) := by
  obtain ⟨a1, a2, h0, h1, h2⟩ := hp
  obtain ⟨k1, k2, k3⟩ := hK
  refine el_lc2 (xs := [.ref a1, .ref a2]) _ (ev_var hj) (sq_of h0) (Nat.le_of_ble_eq_true rfl) hw fun t x H1 e1 ht => ?_
  have hx : ∃ a, x = .ref a ∧ XvAt H1 a C f v := by
    match t, ht with
    | 0, ht => exact ⟨a1, (Option.some.inj ht).symm, h1.on e1⟩
    | 1, ht => exact ⟨a2, (Option.some.inj ht).symm, h2.on e1⟩
  obtain ⟨a, rfl, xa⟩ := hx
  have g := el_catLL (el_sorts (E := E) (ev_var (hm _)) k1 xa.any k3) (el_lst (ea_cons (ev_rep (ev_xf (ev_var (hm _)) k1 k2 xa) (hs.ex e1)) ea_nil) (Nat.le_of_ble_eq_true rfl)) (by rw [hi]; exact Nat.le_of_ble_eq_true rfl)
  rw [hi] at g
  exact g
end
end K01
end
section
set_option Elab.async false
set_option linter.all false
set_option maxRecDepth 100000
set_option maxHeartbeats 4000000
namespace K01
open PySem PySem.Spec PyProof.Rows L2 XV RP GL
open C8 (Cal pe_c pe_gc)
open Evl EX RP
/-! ### the menu -/
inductive FlA : List V → List PyData → Prop
  | nil : FlA [] []
  | cons {v : V} {d : PyData} {vs : List V} {ds : List PyData} : Flat v d → FlA vs ds → FlA (v :: vs) (d :: ds)
inductive Men (H : Hp) : V → PyData → Prop
  | fl {v : V} {d : PyData} : Flat v d → Men H v d
  | tup {a : Addr} {xs : List V} {ds : List PyData} : H a = some (.tup xs) → FlA xs ds → (PyData.tuple ds).hasDict = false → Men H (.ref a) (.tuple ds)
  | lst {a : Addr} {xs : List V} {ds : List PyData} : H a = some (.lst xs) → xs.length ≠ 3 → FlA xs ds → (PyData.list ds).hasDict = false → Men H (.ref a) (.list ds)
  | dic {a : Addr} {kvs : List (Key × V)} {ds : List (PyData × PyData)} : H a = some (.dK kvs) → KvD kvs ds → Men H (.ref a) (.dict ds)
def good (d : PyData) : Bool := d.showable && (decide (d.depth ≤ 60) && (decide (d.shown.length ≤ 1000) && PyData.strOk d.shown))
def MenG (H : Hp) (v : V) : Prop := ∃ d, Men H v d ∧ good d = true
section
variable {K : PySem.W.Frag} {H H' : Hp}
theorem flat_dp {v : V} {d : PyData} (h : Flat v d) : Dp K H v d ∧ d.hasDict = false := by
  cases h with
  | non => exact ⟨.non, rfl⟩
  | bl b => exact ⟨.bl b, rfl⟩
  | int i => exact ⟨.int i, rfl⟩
  | str x => exact ⟨.str x, rfl⟩
theorem fla_dp : ∀ {vs : List V} {ds : List PyData}, FlA vs ds → DpAll K H vs ds
  | _, _, .nil => .nil
  | _, _, .cons h t => .cons (flat_dp h).1 (fla_dp t)
theorem Men.sh {v : V} {d : PyData} (h : Men H v d) : Sh K H v d := by
  cases h with
  | fl f => exact .dp (flat_dp f).1 (flat_dp (K := K) (H := H) f).2
  | tup h f n => exact .dp (.tup (st_of h) (fla_dp f)) n
  | lst h _ f n => exact .dp (.lst (sq_of h) (fla_dp f)) n
  | dic h k => exact .dic h k
theorem MenG.shw {v : V} (h : MenG H v) : ∃ z, Shw K H v z ∧ PyData.strOk z = true := by
  obtain ⟨d, h, g⟩ := h
  obtain ⟨g1, g2⟩ := Bool.and_eq_true_iff.mp g
  obtain ⟨g2, g3⟩ := Bool.and_eq_true_iff.mp g2
  obtain ⟨g3, g4⟩ := Bool.and_eq_true_iff.mp g3
  exact ⟨d.shown, ⟨d, h.sh, g1, of_decide_eq_true g2, of_decide_eq_true g3, g4, rfl⟩, g4⟩
theorem Men.ex {v : V} {d : PyData} (h : Men H v d) (e : Ex H H') : Men H' v d := by
  cases h with
  | fl f => exact .fl f
  | tup h f n => exact .tup (e _ _ h) f n
  | lst h n3 f n => exact .lst (e _ _ h) n3 f n
  | dic h k => exact .dic (e _ _ h) k
theorem MenG.ex {v : V} (h : MenG H v) (e : Ex H H') : MenG H' v := let ⟨d, h1, h2⟩ := h; ⟨d, h1.ex e, h2⟩
theorem ne_jar {j a : Addr} {o : HO} (hj : JarAt H j) (h : H a = some o) (n : ∀ x y z, o ≠ jar x y z) : a ≠ j := fun z => by
  obtain ⟨x, y, w, e⟩ := hj
  rw [z, e] at h
  exact n x y w (Option.some.inj h).symm
theorem Men.but {v : V} {d : PyData} {j : Addr} (h : Men H v d) (hj : JarAt H j) (b : But j H H') : Men H' v d := by
  cases h with
  | fl f => exact .fl f
  | tup h f n => exact .tup (b _ _ (ne_jar hj h fun _ _ _ z => by cases z) h) f n
  | @lst a xs ds h n3 f n => exact .lst (b _ _ (ne_jar hj h fun _ _ _ z => n3 (by rw [HO.lst.inj z]; rfl)) h) n3 f n
  | dic h k => exact .dic (b _ _ (ne_jar hj h fun _ _ _ z => by cases z) h) k
theorem MenG.but {v : V} {j : Addr} (h : MenG H v) (hj : JarAt H j) (b : But j H H') : MenG H' v := let ⟨d, h1, h2⟩ := h; ⟨d, h1.but hj b, h2⟩
/-- evaluates to something of the menu -/
def EvG (te : TE) (σ : L2.St) (H : Hp) : Prop := ∀ H1, Ex H H1 → ∀ Q : VK, (∀ v H2, Ex H1 H2 → MenG H2 v → Q v H2) → te σ H1 Q
def EvGs (ta : TA) (σ : L2.St) (H : Hp) (n : Nat) : Prop := ∀ H1, Ex H H1 → ∀ Q : List V → Hp → Prop, (∀ vs H2, Ex H1 H2 → vs.length = n → (∀ v, v ∈ vs → MenG H2 v) → Q vs H2) → ta σ H1 Q
def EvM (te : TE) (σ : L2.St) (H : Hp) (n : Nat) : Prop := ∀ H1, Ex H H1 → ∀ Q : VK, (∀ p vs H2, H1 p = none → Ex H1 H2 → H2 p = some (.lst vs) → vs.length = n → (∀ v, v ∈ vs → MenG H2 v) → Q (.ref p) H2) → te σ H1 Q
variable {σ : L2.St} {te tk tv : TE} {ta tr : TA} {v : V} {d : PyData} {xs : List V} {ds : List PyData} {n : Nat} {D : Ends} {tz : TS}
theorem eg_v (h : Ev te σ H v) (f : Flat v d) (g : good d = true) : EvG te σ H := fun H1 e Q q => h H1 e Q fun H2 e2 => q v H2 e2 ⟨d, .fl f, g⟩
theorem eg_u (h : EvU te σ H xs) (f : FlA xs ds) (n : (PyData.tuple ds).hasDict = false) (g : good (.tuple ds) = true) : EvG te σ H := fun H1 e Q q => h H1 e Q fun p H2 _ e2 h2 => q (.ref p) H2 e2 ⟨_, .tup h2 f n, g⟩
theorem eg_l (h : EvL te σ H xs) (f : FlA xs ds) (n3 : xs.length ≠ 3) (n : (PyData.list ds).hasDict = false) (g : good (.list ds) = true) : EvG te σ H := fun H1 e Q q => h H1 e Q fun p H2 _ e2 h2 => q (.ref p) H2 e2 ⟨_, .lst h2 n3 f n, g⟩
theorem eg_d0 (g : good (.dict []) = true) : EvG tDNewK σ H := fun H1 e Q q => fun p hp => q (.ref p) _ (Ex.new hp) ⟨_, .dic upd_same .nil, g⟩
theorem eg_d1 {x : Str} {i : Int} (g : good (.dict [(.str x, .int i)]) = true) : EvG (tDisp [(tC (.str x), tC (.int i))]) σ H := fun H1 e Q q => fun p hp =>
  ⟨upd_same, [(.inr x, .int i)], rfl, Nat.le_of_ble_eq_true rfl, q (.ref p) _ (Ex.mut (Ex.new hp) hp) ⟨_, .dic upd_same (.cons (.int i) .nil), g⟩⟩
theorem egs_nil : EvGs tNil σ H 0 := fun H1 _ _ q => q [] H1 (Ex.refl H1) rfl fun _ h => nomatch h
theorem egs_cons (h : EvG te σ H) (hr : EvGs tr σ H n) : EvGs (tCons te tr) σ H (n + 1) := fun H1 e _ q =>
  h H1 e _ fun v H2 e2 g => hr H2 (e.trans e2) _ fun vs H3 e3 hl gs => q (v :: vs) H3 (e2.trans e3) (by rw [List.length_cons, hl]) fun u hu => by
    rcases List.mem_cons.mp hu with z | z
    · rw [z]
      exact g.ex e3
    · exact gs u z
theorem em_lst (h : EvGs ta σ H n) (hn : n ≤ 1000) : EvM (tLst ta) σ H n := fun H1 e _ q => h H1 e _ fun vs H2 e2 hl gs => ⟨by rw [hl]; exact sz_of (by omega), fun p hp =>
  q p vs _ (fresh_back e2 hp) (e2.trans (Ex.new hp)) upd_same hl fun v hv => (gs v hv).ex (Ex.new hp)⟩
/-- the thing that the jar draws -/
theorem q_thing {j : Addr} {E : XK} (hσ : σ[0]? = some (some (.ref j))) (hj : JarAt H j) (h : EvM te σ H n) (h0 : 0 < n) (h1 : n < 1000) (k : ∀ v H1, MenG H1 v → But j H H1 → tz D (σ.set 1 (some v)) H1) :
    tSeq (tAsg (tCall spOne [] E (tCons (tVar 0) (tCons te tNil))) (gName 1)) tz D σ H := ⟨.ref j, hσ, h H (Ex.refl H) _ fun p vs H1 hp e1 hl hn gs => by
  obtain ⟨a, b, c, ej⟩ := id hj
  refine ⟨j, p, vs, rfl, hj.on e1, hl, fun z => ?_, by omega, by omega, fun v H' hv hj' hb => k v H' ((gs v hv).but (hj.on e1) hb) fun b o h x => hb b o h (e1 b o x)⟩
  rw [z, ej] at hp
  cases hp⟩
/-! ### the loops over the errors -/
theorem Prs.at {f : Str} {v : V} : ∀ {ps Cs : List Addr}, Prs H f v ps Cs → ∀ {i : Nat} {x : V}, (ps.map V.ref)[i]? = some x → ∃ p C, x = .ref p ∧ Cs[i]? = some C ∧ PairAt H p C f v
  | _, _, .nil, i, x, h => by simp at h
  | _, _, .cons (a := p) (b := C) h t, 0, x, e => ⟨p, C, (Option.some.inj e).symm, rfl, h⟩
  | _, _, .cons h t, i + 1, x, e => Prs.at t (i := i) e
variable {f : Str} {Cs : List Addr} {a b x y w : Option V} {tt : TT} {tu : TS}
theorem q_enum (h : EvLs te [a, b, x, y, none, w] H f v Cs) (hz : Cs.length ≤ 1000)
    (ht : ∀ (i : Nat) C p H', Ex H H' → Cs[i]? = some C → PairAt H' p C f v → EvT tt [a, b, some (.int (i : Int)), some (.ref p), none, w] H' false) (k : ∀ x y H', Ex H H' → tz D [a, b, x, y, none, w] H') :
    tSeq (tFor (iEnum K (tCons te tNil)) (gTup K 2 (gCons (gName 2) (gCons (gName 3) gNil))) (tIfS tt tu tNext)) tz D [a, b, x, y, none, w] H :=
  h H (Ex.refl H) _ fun l ps H1 hl e1 h1 hp => ⟨l, ps.map V.ref, rfl, sq_of h1, by
    refine for_it (walk_enum (K := K) (a := l) (xs := ps.map V.ref)) (fun _ σ' H' => (∃ x y, σ' = [a, b, x, y, none, w]) ∧ Ex H1 H') ⟨⟨x, y, rfl⟩, Ex.refl H1⟩ (fun i σ' H' _ q => sq_of (q.2 _ _ h1)) (fun i u σ' H' H2 hi q hy => ?_) (fun σ' H' q => ?_)
    · obtain ⟨⟨x', y', rfl⟩, e2⟩ := q
      obtain ⟨T, c, z, rfl, hT, rfl, hc, hz⟩ := hy
      obtain rfl := (Option.some.inj hc).symm
      obtain ⟨p, C, rfl, hC, hP⟩ := Prs.at hp hz
      have e3 : Ex H1 (upd H' T (.tup [.int (i : Nat), .ref p])) := e2.trans (Ex.new hT)
      refine ⟨T, [.int (i : Nat), .ref p], rfl, st_of upd_same, rfl, .int (i : Nat), [.ref p], rfl, .ref p, [], rfl, rfl, ?_⟩
      refine s_when (D := _) (ht i C p _ (e1.trans e3) hC (hP.ex e3)) (fun z => (nomatch z)) fun _ H3 e4 => ?_
      exact ⟨⟨_, _, rfl⟩, e3.trans e4⟩
    · obtain ⟨⟨x', y', rfl⟩, e2⟩ := q
      exact k x' y' H' (e1.trans e2)⟩
/-- a tuple of a number and two errors -/
def TupAt (H : Hp) (q : Addr) (n : Int) (C : Addr) (f : Str) (v : V) : Prop := ∃ p, H q = some (.tup [.int n, .ref p]) ∧ PairAt H p C f v
theorem TupAt.ex {q C : Addr} {n : Int} (h : TupAt H q n C f v) (e : Ex H H') : TupAt H' q n C f v := let ⟨p, h1, h2⟩ := h; ⟨p, e _ _ h1, h2.ex e⟩
theorem TupAt.put {q C l : Addr} {n : Int} {xs : List V} {o : HO} (h : TupAt H q n C f v) (hl : H l = some (.lst xs)) (hx : xs.length ≠ 2) : TupAt (upd H l o) q n C f v := by
  obtain ⟨p, h1, h2⟩ := h
  have n1 : q ≠ l := fun z => by
    rw [z, hl] at h1
    cases h1
  have n2 : p ≠ l := fun z => by
    obtain ⟨a, b, g, _⟩ := h2
    rw [z, hl] at g
    exact hx (by rw [HO.lst.inj (Option.some.inj g)]; rfl)
  exact ⟨p, by rw [upd_ne n1]; exact h1, h2.put hl n2⟩
theorem et_tup {C : Addr} {n : Int} (h : EvE te σ H (fun H p => PairAt H p C f v)) : EvE (tTup (tCons (tC (.int n)) (tCons te tNil))) σ H (fun H q => TupAt H q n C f v) := fun H1 e Q q =>
  h H1 e _ fun p H2 e2 hp => ⟨by show 2 ≤ sizeLine; decide, fun r hr => q r _ (e2.trans (Ex.new hr)) ⟨p, upd_same, hp.ex (Ex.new hr)⟩⟩
def EvTwo (te : TE) (σ : L2.St) (H : Hp) (f : Str) (v : V) (n1 : Int) (C1 : Addr) (n2 : Int) (C2 : Addr) : Prop := ∀ H1, Ex H H1 → ∀ Q : VK, (∀ l q1 q2 H2, Ex H1 H2 → H2 l = some (.lst [.ref q1, .ref q2]) → TupAt H2 q1 n1 C1 f v → TupAt H2 q2 n2 C2 f v → Q (.ref l) H2) → te σ H1 Q
theorem e2_lst {t1 t2 : TE} {n1 n2 : Int} {C1 C2 : Addr} (h1 : EvE t1 σ H (fun H q => TupAt H q n1 C1 f v)) (h2 : EvE t2 σ H (fun H q => TupAt H q n2 C2 f v)) : EvTwo (tLst (tCons t1 (tCons t2 tNil))) σ H f v n1 C1 n2 C2 := fun H1 e Q q =>
  h1 H1 e _ fun q1 H2 e2 x => h2 H2 (e.trans e2) _ fun q2 H3 e3 y => ⟨by show 2 ≤ sizeLine; decide, fun l hl => q l q1 q2 _ ((e2.trans e3).trans (Ex.new hl)) upd_same ((x.ex e3).ex (Ex.new hl)) (y.ex (Ex.new hl))⟩
theorem e2_var {i : Nat} {l q1 q2 : Addr} {n1 n2 : Int} {C1 C2 : Addr} (hσ : σ[i]? = some (some (.ref l))) (h : H l = some (.lst [.ref q1, .ref q2])) (h1 : TupAt H q1 n1 C1 f v) (h2 : TupAt H q2 n2 C2 f v) : EvTwo (tVar i) σ H f v n1 C1 n2 C2 := fun H1 e Q q =>
  ⟨.ref l, hσ, q l q1 q2 H1 (Ex.refl H1) (e _ _ h) (h1.ex e) (h2.ex e)⟩
theorem els_call {i : Nat} {E : XK} (hσ : σ[i]? = some (some v)) : EvLs (tCall (spErr f Cs) [] E (tCons (tVar i) tNil)) σ H f v Cs := fun H1 _ Q q => ⟨v, hσ, v, rfl, fun l ps H' n e2 h p => q l ps H' n e2 h p⟩
theorem q_one {i : Nat} {C : Addr} {n : Int} (h : EvE te σ H (fun H q => TupAt H q n C f v)) (k : ∀ l q H1, H l = none → Ex H H1 → H1 l = some (.lst [.ref q]) → TupAt H1 q n C f v → tz D (σ.set i (some (.ref l))) H1) :
    tSeq (tAsg (tLst (tCons te tNil)) (gName i)) tz D σ H := h H (Ex.refl H) _ fun q H1 e x => ⟨by show 1 ≤ sizeLine; decide, fun l hl => k l q _ (fresh_back e hl) (e.trans (Ex.new hl)) upd_same (x.ex (Ex.new hl))⟩
theorem q_app2 {H0 : Hp} {l q1 : Addr} {n1 n2 : Int} {C1 C2 : Addr} {ta : TE} (n0 : H0 l = none) (e0 : Ex H0 H) (hl : H l = some (.lst [.ref q1])) (h1 : TupAt H q1 n1 C1 f v) (ha : Ev ta σ H (.ref l)) (h : EvE te σ H (fun H q => TupAt H q n2 C2 f v))
    (k : ∀ q2 H1, Ex H0 H1 → H1 l = some (.lst [.ref q1, .ref q2]) → TupAt H1 q1 n1 C1 f v → TupAt H1 q2 n2 C2 f v → tz D σ H1) : tSeq (tDrop (tBM K "list" rAppend ta (tCons te tNil))) tz D σ H := ha H (Ex.refl H) _ fun H1 e1 =>
  ⟨Or.inl ⟨rfl, _, sq_of (e1 l _ hl)⟩, h H1 e1 _ fun q2 H2 e2 x => ⟨l, _, .ref q2, rfl, rfl, e2 l _ (e1 l _ hl), sz_lt (by show 1 < 100000; decide), by
    have hl2 := e2 l _ (e1 l _ hl)
    exact k q2 _ (Ex.mut ((e0.trans e1).trans e2) n0) upd_same (((h1.ex e1).ex e2).put hl2 (by show (1 : Nat) ≠ 2; decide)) (x.put hl2 (by show (1 : Nat) ≠ 2; decide))⟩⟩
theorem q_two {n1 n2 : Int} {C1 C2 : Addr} (h : EvTwo te [a, b, x, y, none, w] H f v n1 C1 n2 C2)
    (ht1 : ∀ p H', Ex H H' → PairAt H' p C1 f v → EvT tt [a, b, some (.int n1), some (.ref p), none, w] H' false) (ht2 : ∀ p H', Ex H H' → PairAt H' p C2 f v → EvT tt [a, b, some (.int n2), some (.ref p), none, w] H' false)
    (k : ∀ x y H', Ex H H' → tz D [a, b, x, y, none, w] H') :
    tSeq (tFor (iList K te) (gTup K 2 (gCons (gName 2) (gCons (gName 3) gNil))) (tIfS tt tu tNext)) tz D [a, b, x, y, none, w] H :=
  h H (Ex.refl H) _ fun l q1 q2 H1 e1 hl g1 g2 => ⟨l, rfl, ⟨[.ref q1, .ref q2], sq_of hl⟩, by
    refine for_it (walk_list (K := K) (a := l) (xs := [.ref q1, .ref q2])) (fun _ σ' H' => (∃ x y, σ' = [a, b, x, y, none, w]) ∧ Ex H1 H') ⟨⟨x, y, rfl⟩, Ex.refl H1⟩ (fun i σ' H' _ q => sq_of (q.2 _ _ hl)) (fun i u σ' H' H2 hi q hy => ?_) (fun σ' H' q => ?_)
    · obtain ⟨⟨x', y', rfl⟩, e2⟩ := q
      obtain ⟨rfl, hu⟩ := hy
      have hgo : ∃ (q : Addr) (n : Int) (C : Addr), u = .ref q ∧ TupAt H1 q n C f v ∧ ∀ p H', Ex H H' → PairAt H' p C f v → EvT tt [a, b, some (.int n), some (.ref p), none, w] H' false := by
        match i, hi, hu with
        | 0, _, hu => exact ⟨q1, n1, C1, (Option.some.inj hu).symm, g1, ht1⟩
        | 1, _, hu => exact ⟨q2, n2, C2, (Option.some.inj hu).symm, g2, ht2⟩
      obtain ⟨q, n, C, rfl, ⟨p, hq, hp⟩, ht⟩ := hgo
      refine ⟨q, [.int n, .ref p], rfl, st_of (e2 _ _ hq), rfl, .int n, [.ref p], rfl, .ref p, [], rfl, rfl, ?_⟩
      refine s_when (D := _) (ht p _ (e1.trans e2) (hp.ex e2)) (fun z => (nomatch z)) fun _ H3 e4 => ?_
      exact ⟨⟨_, _, rfl⟩, e2.trans e4⟩
    · obtain ⟨⟨x', y', rfl⟩, e2⟩ := q
      exact k x' y' H' (e1.trans e2)⟩
end
end K01
end
section
set_option Elab.async false
set_option linter.all false
set_option maxRecDepth 100000
set_option maxHeartbeats 4000000
namespace K01
open PySem PySem.Spec PyProof.Rows L2 XV RP GL
open C8 (Cal pe_c pe_gc)
open Evl EX RP
/-- class, which it is, whose base -/
def kitTable : List (Str × Nat × Nat) := [("InvalidText", 0, 0), ("InvalidName", 1, 0), ("InvalidKind", 2, 0), ("InvalidWish", 3, 0), ("InvalidIndex", 4, 0), ("InvalidNumber", 5, 0), ("InvalidLine", 6, 0), ("NotATable", 7, 0), ("InvalidColumns", 8, 0), ("InvalidValues", 9, 0), ("InvalidCells", 10, 0), ("InvalidLost", 11, 0), ("InvalidNames", 12, 0), ("InvalidRounds", 13, 0), ("InvalidDeeds", 14, 0), ("UnknownName", 15, 1), ("NotLost", 16, 1), ("NotRight", 17, 2), ("NotBack", 18, 2), ("NotReady", 19, 2), ("Broken", 20, 2), ("InUse", 21, 2), ("NothingToUndo", 22, 2), ("WrongValue", 99, 0), ("WrongName", 99, 1), ("NoAnswer", 99, 2)]
def kitsB (K : PySem.W.Frag) : Bool := kitTable.all fun t => (List.range 29).all fun j => decide (((tc K)[j]?).elim none (PySem.W.kitOne K (.ref (He.ga K t.1))) = some ((bsOf t.2.1 t.2.2).getD j false))
def Kits (K : PySem.W.Frag) : Prop := ∀ (n : Nat) (t : Str × Nat × Nat), kitTable[n]? = some t → ∀ (j : Nat) (c : Value), (tc K)[j]? = some c → PySem.W.kitOne K (.ref (He.ga K t.1)) c = some ((bsOf t.2.1 t.2.2).getD j false)
theorem kits_of {K : PySem.W.Frag} (h : kitsB K = true) : Kits K := fun n t hn j c hc => by
  have h1 := List.all_eq_true.mp (List.all_eq_true.mp h t (List.mem_of_getElem? hn)) j (List.mem_range.mpr (List.getElem?_eq_some_iff.mp hc).1)
  have h2 := of_decide_eq_true h1
  rw [hc] at h2
  exact h2
section
variable {P : Program} {w : World} {K : PySem.W.Frag} {mg : Str → Option Value} {base : Heap} {f : Addr} {fd : FuncData}
abbrev givenCs (K : PySem.W.Frag) : List Addr := [He.ga K "InvalidText", He.ga K "InvalidName", He.ga K "InvalidKind", He.ga K "InvalidWish", He.ga K "InvalidIndex", He.ga K "InvalidNumber", He.ga K "InvalidLine", He.ga K "NotATable"]
abbrev indexCs (K : PySem.W.Frag) : List Addr := [He.ga K "InvalidColumns", He.ga K "InvalidValues", He.ga K "InvalidCells", He.ga K "InvalidLost", He.ga K "InvalidNames", He.ga K "InvalidRounds", He.ga K "InvalidDeeds"]
theorem kind_g (T : Tx P w K mg base) (Z : Kits K) : ∀ (t : Nat) (C : Addr), (givenCs K)[t]? = some C → t < 8 ∧ Kind K C .ve "given" t 0
  | 0, C, ht => by
    obtain rfl := Option.some.inj ht
    exact ⟨by decide, T.d_InvalidText.T, T.d_InvalidText.hno, Z 0 _ rfl⟩
  | 1, C, ht => by
    obtain rfl := Option.some.inj ht
    exact ⟨by decide, T.d_InvalidName.T, T.d_InvalidName.hno, Z 1 _ rfl⟩
  | 2, C, ht => by
    obtain rfl := Option.some.inj ht
    exact ⟨by decide, T.d_InvalidKind.T, T.d_InvalidKind.hno, Z 2 _ rfl⟩
  | 3, C, ht => by
    obtain rfl := Option.some.inj ht
    exact ⟨by decide, T.d_InvalidWish.T, T.d_InvalidWish.hno, Z 3 _ rfl⟩
  | 4, C, ht => by
    obtain rfl := Option.some.inj ht
    exact ⟨by decide, T.d_InvalidIndex.T, T.d_InvalidIndex.hno, Z 4 _ rfl⟩
  | 5, C, ht => by
    obtain rfl := Option.some.inj ht
    exact ⟨by decide, T.d_InvalidNumber.T, T.d_InvalidNumber.hno, Z 5 _ rfl⟩
  | 6, C, ht => by
    obtain rfl := Option.some.inj ht
    exact ⟨by decide, T.d_InvalidLine.T, T.d_InvalidLine.hno, Z 6 _ rfl⟩
  | 7, C, ht => by
    obtain rfl := Option.some.inj ht
    exact ⟨by decide, T.d_NotATable.T, T.d_NotATable.hno, Z 7 _ rfl⟩
  | _ + 8, _, ht => by simp at ht
theorem kind_i (T : Tx P w K mg base) (Z : Kits K) : ∀ (t : Nat) (C : Addr), (indexCs K)[t]? = some C → t < 7 ∧ Kind K C .ve "index" (8 + t) 0
  | 0, C, ht => by
    obtain rfl := Option.some.inj ht
    exact ⟨by decide, T.d_InvalidColumns.T, T.d_InvalidColumns.hno, Z 8 _ rfl⟩
  | 1, C, ht => by
    obtain rfl := Option.some.inj ht
    exact ⟨by decide, T.d_InvalidValues.T, T.d_InvalidValues.hno, Z 9 _ rfl⟩
  | 2, C, ht => by
    obtain rfl := Option.some.inj ht
    exact ⟨by decide, T.d_InvalidCells.T, T.d_InvalidCells.hno, Z 10 _ rfl⟩
  | 3, C, ht => by
    obtain rfl := Option.some.inj ht
    exact ⟨by decide, T.d_InvalidLost.T, T.d_InvalidLost.hno, Z 11 _ rfl⟩
  | 4, C, ht => by
    obtain rfl := Option.some.inj ht
    exact ⟨by decide, T.d_InvalidNames.T, T.d_InvalidNames.hno, Z 12 _ rfl⟩
  | 5, C, ht => by
    obtain rfl := Option.some.inj ht
    exact ⟨by decide, T.d_InvalidRounds.T, T.d_InvalidRounds.hno, Z 13 _ rfl⟩
  | 6, C, ht => by
    obtain rfl := Option.some.inj ht
    exact ⟨by decide, T.d_InvalidDeeds.T, T.d_InvalidDeeds.hno, Z 14 _ rfl⟩
  | _ + 7, _, ht => by simp at ht
theorem so_g : ∀ t, t < 8 → sortsOf (bsOf t 0) = [(t : Int), 50, 53] := by decide +kernel
theorem so_i : ∀ t, t < 7 → sortsOf (bsOf (8 + t) 0) = [8 + (t : Int), 50, 53] := by decide +kernel
def spRight : Sp := fun vs H Q _ => ∃ j, vs = [.ref j] ∧ JarAt H j ∧ ∀ H', But j H H' → Q (.bl true) H'
abbrev sc_law_right_N : List Str := ["_law_jar_here", "_law_thing", "_law_at", "_law_both", "_law_e", "_law_pairs_here"]
theorem sc_law_right : FnScope sc_law_right_N ["_law_jar_here"] (defScope s_law_right) := ⟨rfl, rfl, rfl, by decide +kernel, rfl, by decide +kernel, by decide +kernel⟩
theorem ok_right (F : FnP K "_law_right" s_law_right f fd) (T : Tx P w K mg base) (Z : Kits K) (C_law_one_of : Cal P w K mg base 3 "_law_one_of" spOne []) (C_law_sorts : Cal P w K mg base 3 "_law_sorts" (spSorts K) [])
    (C_law_given_errors : Cal P w K mg base 3 "_law_given_errors" (spErr "given" (givenCs K)) []) (C_law_index_errors : Cal P w K mg base 3 "_law_index_errors" (spErr "index" (indexCs K)) []) : FnG P w K mg base CX0 4 f fd ["_law_jar_here"] spRight := by
  refine FnG.body F sc_law_right (fun vs H Q E h => ?_) (fun cdv A outer s H vs Q E g hr h => ?_)
  · obtain ⟨j, rfl, _⟩ := h
    rfl
  · obtain ⟨j, rfl, hj, k⟩ := h
    have hr2 := hr.mono (by decide : 2 ≤ 3)
    have hu := hr.units
    refine ⟨_, PSs.nox (pss_cons (ps_set (i := 1) sc_law_right.nd rfl (.inl rfl) (pe_c C_law_one_of hr (by decide) rfl (pa_cons (pv 0) (pa_cons (pe_lst (pa_cons pe_non (pa_cons pe_int (pa_cons (pe_un un_neg pe_int) (pa_cons pe_bl (pa_cons pe_str (pa_cons pe_str (pa_cons (pe_tup pa_nil) (pa_cons (pe_tup (pa_cons pe_int (pa_cons pe_int pa_nil))) (pa_cons (pe_lst pa_nil) (pa_cons (pe_lst (pa_cons pe_int pa_nil)) (pa_cons pe_dnewK (pa_cons (pe_disp (pps_cons pe_str pe_int pps_nil) rfl rfl (fun z => (nomatch z)) (by decide)) (pa_cons (pe_op op_pow pe_int pe_int) (pa_cons (pe_tup (pa_cons pe_str (pa_cons pe_int pa_nil))) pa_nil))))))))))))))) pa_nil))))
  (pss_cons (ps_for PassesOwn.never rfl (pi_enum (by rfl) T.n_enumerate (pa_cons (pe_c C_law_given_errors hr (by decide) rfl (pa_cons (pv 1) pa_nil)) pa_nil)) (pg_tup (by rfl) (pgs_cons (pg_name (i := 2) sc_law_right.nd rfl (.inl rfl)) (pgs_cons (pg_name (i := 3) sc_law_right.nd rfl (.inl rfl)) pgs_nil)))
  (pss_one (ps_if (pt_cmpR (op_neD hr.units) (pe_lc (own := [("_law_e", 4)]) (g := gName 4) (tt := tYes) rfl sc_law_right.nd (pi_list (pv 3)) (blkOk_by (own := [("_law_e", 4)]) (N := sc_law_right_N) (sc := defScope s_law_right) (by decide +kernel)) (fun _ _ _ _ _ => (pg_name (i := 4) sc_law_right.nd rfl (.inl rfl))) (fun _ _ _ _ _ => pts_nil) (fun _ _ _ _ _ => (pe_op op_cat (pe_c C_law_sorts hr (by decide) rfl (pa_cons (pv 4) pa_nil)) (pe_lst (pa_cons (pe_callB (r := rRepr K) (call_repr g hu) (by rfl) T.n_repr (by decide +kernel) (pa_cons (pe_xf (K := K) (pv 4)) pa_nil)) pa_nil))))) (pe_op op_rep (pe_lst (pa_cons (pe_lst (pa_cons (pv 2) (pa_cons pe_int (pa_cons pe_int (pa_cons (pe_callB (call_repr g hu) (by rfl) T.n_repr (by decide +kernel) (pa_cons (pv 1) pa_nil)) pa_nil))))) pa_nil)) pe_int) (nomark _))
  (pss_one (ps_ret pe_bl))
  pss_nil)))
  (pss_cons (ps_for PassesOwn.never rfl (pi_enum (by rfl) T.n_enumerate (pa_cons (pe_c C_law_index_errors hr (by decide) rfl (pa_cons (pv 1) pa_nil)) pa_nil)) (pg_tup (by rfl) (pgs_cons (pg_name (i := 2) sc_law_right.nd rfl (.inl rfl)) (pgs_cons (pg_name (i := 3) sc_law_right.nd rfl (.inl rfl)) pgs_nil)))
  (pss_one (ps_if (pt_cmpR (op_neD hr.units) (pe_lc (own := [("_law_e", 4)]) (g := gName 4) (tt := tYes) rfl sc_law_right.nd (pi_list (pv 3)) (blkOk_by (own := [("_law_e", 4)]) (N := sc_law_right_N) (sc := defScope s_law_right) (by decide +kernel)) (fun _ _ _ _ _ => (pg_name (i := 4) sc_law_right.nd rfl (.inl rfl))) (fun _ _ _ _ _ => pts_nil) (fun _ _ _ _ _ => (pe_op op_cat (pe_c C_law_sorts hr (by decide) rfl (pa_cons (pv 4) pa_nil)) (pe_lst (pa_cons (pe_callB (r := rRepr K) (call_repr g hu) (by rfl) T.n_repr (by decide +kernel) (pa_cons (pe_xf (K := K) (pv 4)) pa_nil)) pa_nil))))) (pe_op op_rep (pe_lst (pa_cons (pe_lst (pa_cons (pe_op op_add pe_int (pv 2)) (pa_cons pe_int (pa_cons pe_int (pa_cons (pe_callB (call_repr g hu) (by rfl) T.n_repr (by decide +kernel) (pa_cons (pv 1) pa_nil)) pa_nil))))) pa_nil)) pe_int) (nomark _))
  (pss_one (ps_ret pe_bl))
  pss_nil)))
  (pss_cons (ps_set (i := 5) sc_law_right.nd rfl (.inl rfl) (pe_lst (pa_cons (pe_tup (pa_cons pe_int (pa_cons (pe_lst (pa_cons (pe_xp T.d_UnknownName hr2 (pa_cons (pv 1) pa_nil)) (pa_cons (pe_xk T.d_UnknownName hr2 (pk_cons (pv 1) pk_nil)) pa_nil))) pa_nil))) pa_nil)))
  (pss_cons (ps_expr (pe_bm PySem.F.plainAttrs_list PySem.F.slot_list_append PySem.F.type_list_append mt_append (pv 5) (pa_cons (pe_tup (pa_cons pe_int (pa_cons (pe_lst (pa_cons (pe_xp T.d_NotLost hr2 (pa_cons (pv 1) pa_nil)) (pa_cons (pe_xk T.d_NotLost hr2 (pk_cons (pv 1) pk_nil)) pa_nil))) pa_nil))) pa_nil)))
  (pss_cons (ps_for PassesOwn.never rfl (pi_list (pv 5)) (pg_tup (by rfl) (pgs_cons (pg_name (i := 2) sc_law_right.nd rfl (.inl rfl)) (pgs_cons (pg_name (i := 3) sc_law_right.nd rfl (.inl rfl)) pgs_nil)))
  (pss_one (ps_if (pt_cmpR (op_neD hr.units) (pe_lc (own := [("_law_e", 4)]) (g := gName 4) (tt := tYes) rfl sc_law_right.nd (pi_list (pv 3)) (blkOk_by (own := [("_law_e", 4)]) (N := sc_law_right_N) (sc := defScope s_law_right) (by decide +kernel)) (fun _ _ _ _ _ => (pg_name (i := 4) sc_law_right.nd rfl (.inl rfl))) (fun _ _ _ _ _ => pts_nil) (fun _ _ _ _ _ => (pe_op op_cat (pe_c C_law_sorts hr (by decide) rfl (pa_cons (pv 4) pa_nil)) (pe_lst (pa_cons (pe_callB (r := rRepr K) (call_repr g hu) (by rfl) T.n_repr (by decide +kernel) (pa_cons (pe_xf (K := K) (pv 4)) pa_nil)) pa_nil))))) (pe_op op_rep (pe_lst (pa_cons (pe_lst (pa_cons (pv 2) (pa_cons pe_int (pa_cons pe_int (pa_cons (pe_callB (call_repr g hu) (by rfl) T.n_repr (by decide +kernel) (pa_cons (pv 1) pa_nil)) pa_nil))))) pa_nil)) pe_int) (nomark _))
  (pss_one (ps_ret pe_bl))
  pss_nil)))
  (pss_cons (ps_for PassesOwn.never rfl (pi_list (pe_lst (pa_cons (pe_tup (pa_cons pe_int (pa_cons (pe_lst (pa_cons (pe_xp T.d_NotBack hr2 (pa_cons (pv 1) pa_nil)) (pa_cons (pe_xk T.d_NotBack hr2 (pk_cons (pv 1) pk_nil)) pa_nil))) pa_nil))) (pa_cons (pe_tup (pa_cons pe_int (pa_cons (pe_lst (pa_cons (pe_xp T.d_NotReady hr2 (pa_cons (pv 1) pa_nil)) (pa_cons (pe_xk T.d_NotReady hr2 (pk_cons (pv 1) pk_nil)) pa_nil))) pa_nil))) pa_nil)))) (pg_tup (by rfl) (pgs_cons (pg_name (i := 2) sc_law_right.nd rfl (.inl rfl)) (pgs_cons (pg_name (i := 3) sc_law_right.nd rfl (.inl rfl)) pgs_nil)))
  (pss_one (ps_if (pt_cmpR (op_neD hr.units) (pe_lc (own := [("_law_e", 4)]) (g := gName 4) (tt := tYes) rfl sc_law_right.nd (pi_list (pv 3)) (blkOk_by (own := [("_law_e", 4)]) (N := sc_law_right_N) (sc := defScope s_law_right) (by decide +kernel)) (fun _ _ _ _ _ => (pg_name (i := 4) sc_law_right.nd rfl (.inl rfl))) (fun _ _ _ _ _ => pts_nil) (fun _ _ _ _ _ => (pe_op op_cat (pe_c C_law_sorts hr (by decide) rfl (pa_cons (pv 4) pa_nil)) (pe_lst (pa_cons (pe_callB (r := rRepr K) (call_repr g hu) (by rfl) T.n_repr (by decide +kernel) (pa_cons (pe_xf (K := K) (pv 4)) pa_nil)) pa_nil))))) (pe_op op_rep (pe_lst (pa_cons (pe_lst (pa_cons (pv 2) (pa_cons pe_int (pa_cons pe_int (pa_cons (pe_callB (call_repr g hu) (by rfl) T.n_repr (by decide +kernel) (pa_cons (pv 1) pa_nil)) pa_nil))))) pa_nil)) pe_int) (nomark _))
  (pss_one (ps_ret pe_bl))
  pss_nil)))
  (pss_cons (ps_for PassesOwn.never rfl (pi_list (pe_lst (pa_cons (pe_tup (pa_cons pe_int (pa_cons (pe_lst (pa_cons (pe_xp T.d_Broken hr2 (pa_cons (pv 1) pa_nil)) (pa_cons (pe_xk T.d_Broken hr2 (pk_cons (pv 1) pk_nil)) pa_nil))) pa_nil))) (pa_cons (pe_tup (pa_cons pe_int (pa_cons (pe_lst (pa_cons (pe_xp T.d_InUse hr2 (pa_cons (pv 1) pa_nil)) (pa_cons (pe_xk T.d_InUse hr2 (pk_cons (pv 1) pk_nil)) pa_nil))) pa_nil))) pa_nil)))) (pg_tup (by rfl) (pgs_cons (pg_name (i := 2) sc_law_right.nd rfl (.inl rfl)) (pgs_cons (pg_name (i := 3) sc_law_right.nd rfl (.inl rfl)) pgs_nil)))
  (pss_one (ps_if (pt_cmpR (op_neD hr.units) (pe_lc (own := [("_law_e", 4)]) (g := gName 4) (tt := tYes) rfl sc_law_right.nd (pi_list (pv 3)) (blkOk_by (own := [("_law_e", 4)]) (N := sc_law_right_N) (sc := defScope s_law_right) (by decide +kernel)) (fun _ _ _ _ _ => (pg_name (i := 4) sc_law_right.nd rfl (.inl rfl))) (fun _ _ _ _ _ => pts_nil) (fun _ _ _ _ _ => (pe_op op_cat (pe_c C_law_sorts hr (by decide) rfl (pa_cons (pv 4) pa_nil)) (pe_lst (pa_cons (pe_callB (r := rRepr K) (call_repr g hu) (by rfl) T.n_repr (by decide +kernel) (pa_cons (pe_xf (K := K) (pv 4)) pa_nil)) pa_nil))))) (pe_op op_rep (pe_lst (pa_cons (pe_lst (pa_cons (pv 2) (pa_cons pe_int (pa_cons pe_int (pa_cons (pe_callB (call_repr g hu) (by rfl) T.n_repr (by decide +kernel) (pa_cons (pv 1) pa_nil)) pa_nil))))) pa_nil)) pe_int) (nomark _))
  (pss_one (ps_ret pe_bl))
  pss_nil)))
  (pss_one (ps_ret pe_bl)))))))))), ?_⟩
    refine q_thing rfl hj (em_lst (egs_cons (eg_v ev_c .non (by decide +kernel)) (egs_cons (eg_v ev_c (.int _) (by decide +kernel)) (egs_cons (eg_v (ev_un ev_c ru_neg) (.int _) (by decide +kernel)) (egs_cons (eg_v ev_c (.bl _) (by decide +kernel)) (egs_cons (eg_v ev_c (.str _) (by decide +kernel)) (egs_cons (eg_v ev_c (.str _) (by decide +kernel)) (egs_cons (eg_u (eu_tup ea_nil (Nat.le_of_ble_eq_true rfl)) .nil rfl (by decide +kernel)) (egs_cons (eg_u (eu_tup (ea_cons ev_c (ea_cons ev_c ea_nil)) (Nat.le_of_ble_eq_true rfl)) (.cons (.int _) (.cons (.int _) .nil)) rfl (by decide +kernel)) (egs_cons (eg_l (el_lst ea_nil (Nat.le_of_ble_eq_true rfl)) .nil (by decide) rfl (by decide +kernel)) (egs_cons (eg_l (el_lst (ea_cons ev_c ea_nil) (Nat.le_of_ble_eq_true rfl)) (.cons (.int _) .nil) (Nat.ne_of_beq_eq_false rfl) rfl (by decide +kernel)) (egs_cons (eg_d0 (by decide +kernel)) (egs_cons (eg_d1 (by decide +kernel)) (egs_cons (eg_v (ev_op ev_c ev_c (rv_I ⟨by decide, by decide, by decide⟩)) (.int _) (by decide +kernel)) (egs_cons (eg_u (eu_tup (ea_cons ev_c (ea_cons ev_c ea_nil)) (Nat.le_of_ble_eq_true rfl)) (.cons (.str _) (.cons (.int _) .nil)) rfl (by decide +kernel)) egs_nil)))))))))))))) (by decide)) (by decide) (by decide) fun v H1 hv b1 => ?_
    obtain ⟨z, hs, zok⟩ := hv.shw
    show tSeq _ _ _ [some (V.ref j), some v, none, none, none, none] H1
    refine q_enum (els_call rfl) (Nat.le_of_ble_eq_true rfl) (fun i C p H2 e hC hp => ?_) fun x y H2 e2 => ?_
    · obtain ⟨hi, HK⟩ := kind_g T Z i C hC
      have HI := so_g i hi
      exact (et_rows zok (el_both rfl hp HK (hs.ex e) HI (fun _ => rfl) (fun _ => rfl)) (ev_var rfl) ev_c ev_c (ev_rep (ev_var rfl) (hs.ex e)) ev_c)
    refine q_enum (els_call rfl) (Nat.le_of_ble_eq_true rfl) (fun i C p H3 e hC hp => ?_) fun x y H3 e3 => ?_
    · obtain ⟨hi, HK⟩ := kind_i T Z i C hC
      have HI := so_i i hi
      exact (et_rows zok (el_both rfl hp HK ((hs.ex e2).ex e) HI (fun _ => rfl) (fun _ => rfl)) (ev_op ev_c (ev_var rfl) rv_I0) ev_c ev_c (ev_rep (ev_var rfl) ((hs.ex e2).ex e)) ev_c)
    have hs3 := (hs.ex e2).ex e3
    refine q_one (et_tup (ep_pair (ep_x (ea_cons (ev_var rfl) ea_nil)) (ep_x (ea_cons (ev_var rfl) ea_nil)))) fun l q1 H4 n4 e4 hl g1 => ?_
    refine q_app2 n4 e4 hl g1 (ev_var rfl) (et_tup (ep_pair (ep_x (ea_cons (ev_var rfl) ea_nil)) (ep_x (ea_cons (ev_var rfl) ea_nil)))) fun q2 H5 e5 hl5 g1' g2 => ?_
    have hs5 := hs3.ex e5
    refine q_two (e2_var rfl hl5 g1' g2) (fun p H6 e hp => ?_) (fun p H6 e hp => ?_) fun x y H6 e6 => ?_
    · have HK : Kind K _ .le "given" 15 1 := ⟨T.d_UnknownName.T, T.d_UnknownName.hno, Z 15 _ rfl⟩
      have HI : sortsOf (bsOf 15 1) = [15, 51, 54] := by decide +kernel
      exact (et_rows zok (el_both rfl hp HK (hs5.ex e) HI (fun _ => rfl) (fun _ => rfl)) (ev_var rfl) ev_c ev_c (ev_rep (ev_var rfl) (hs5.ex e)) ev_c)
    · have HK : Kind K _ .le "given" 16 1 := ⟨T.d_NotLost.T, T.d_NotLost.hno, Z 16 _ rfl⟩
      have HI : sortsOf (bsOf 16 1) = [16, 51, 54] := by decide +kernel
      exact (et_rows zok (el_both rfl hp HK (hs5.ex e) HI (fun _ => rfl) (fun _ => rfl)) (ev_var rfl) ev_c ev_c (ev_rep (ev_var rfl) (hs5.ex e)) ev_c)
    have hs6 := hs5.ex e6
    refine q_two (e2_lst (et_tup (ep_pair (ep_x (ea_cons (ev_var rfl) ea_nil)) (ep_x (ea_cons (ev_var rfl) ea_nil)))) (et_tup (ep_pair (ep_x (ea_cons (ev_var rfl) ea_nil)) (ep_x (ea_cons (ev_var rfl) ea_nil))))) (fun p H7 e hp => ?_) (fun p H7 e hp => ?_) fun x y H7 e7 => ?_
    · have HK : Kind K _ .ae "given" 18 2 := ⟨T.d_NotBack.T, T.d_NotBack.hno, Z 18 _ rfl⟩
      have HI : sortsOf (bsOf 18 2) = [18, 52, 55] := by decide +kernel
      exact (et_rows zok (el_both rfl hp HK (hs6.ex e) HI (fun _ => rfl) (fun _ => rfl)) (ev_var rfl) ev_c ev_c (ev_rep (ev_var rfl) (hs6.ex e)) ev_c)
    · have HK : Kind K _ .ae "given" 19 2 := ⟨T.d_NotReady.T, T.d_NotReady.hno, Z 19 _ rfl⟩
      have HI : sortsOf (bsOf 19 2) = [19, 52, 55] := by decide +kernel
      exact (et_rows zok (el_both rfl hp HK (hs6.ex e) HI (fun _ => rfl) (fun _ => rfl)) (ev_var rfl) ev_c ev_c (ev_rep (ev_var rfl) (hs6.ex e)) ev_c)
    have hs7 := hs6.ex e7
    refine q_two (e2_lst (et_tup (ep_pair (ep_x (ea_cons (ev_var rfl) ea_nil)) (ep_x (ea_cons (ev_var rfl) ea_nil)))) (et_tup (ep_pair (ep_x (ea_cons (ev_var rfl) ea_nil)) (ep_x (ea_cons (ev_var rfl) ea_nil))))) (fun p H8 e hp => ?_) (fun p H8 e hp => ?_) fun x y H8 e8 => ?_
    · have HK : Kind K _ .ae "index" 20 2 := ⟨T.d_Broken.T, T.d_Broken.hno, Z 20 _ rfl⟩
      have HI : sortsOf (bsOf 20 2) = [20, 52, 55] := by decide +kernel
      exact (et_rows zok (el_both rfl hp HK (hs7.ex e) HI (fun _ => rfl) (fun _ => rfl)) (ev_var rfl) ev_c ev_c (ev_rep (ev_var rfl) (hs7.ex e)) ev_c)
    · have HK : Kind K _ .ae "index" 21 2 := ⟨T.d_InUse.T, T.d_InUse.hno, Z 21 _ rfl⟩
      have HI : sortsOf (bsOf 21 2) = [21, 52, 55] := by decide +kernel
      exact (et_rows zok (el_both rfl hp HK (hs7.ex e) HI (fun _ => rfl) (fun _ => rfl)) (ev_var rfl) ev_c ev_c (ev_rep (ev_var rfl) (hs7.ex e)) ev_c)
    refine s_ret ev_c fun H9 e9 => k H9 (b1.trans (.of (((((e2.trans e3).trans e5).trans e6).trans e7).trans e8 |>.trans e9)))
end
end K01
end
section
set_option Elab.async false
set_option linter.all false
set_option maxRecDepth 100000
set_option maxHeartbeats 4000000
namespace K01
open PySem PySem.Spec PyProof.Rows L2 XV RP GL
open C8 (Cal pe_c pe_gc)
open Evl EX RP
structure Tm (mg : Str → Option Value) : Prop where
  c_MOST_COLUMNS : ∃ u, mg "MOST_COLUMNS" = some u ∧ RelV (.int 8) u
  c_MOST_SUMS : ∃ u, mg "MOST_SUMS" = some u ∧ RelV (.int 10) u
  c_MOST_DATA : ∃ u, mg "MOST_DATA" = some u ∧ RelV (.int 24) u
  c_MOST_DIAL : ∃ u, mg "MOST_DIAL" = some u ∧ RelV (.int 1000000000) u
  c_MOST_BITS : ∃ u, mg "MOST_BITS" = some u ∧ RelV (.int 60) u
  c_MOST_VALUE : ∃ u, mg "MOST_VALUE" = some u ∧ RelV (.int 1000000000000000000000000000000) u
  c_MOST_SUM : ∃ u, mg "MOST_SUM" = some u ∧ RelV (.int 100000000000000000000000000000000) u
  c_MOST_PLACES : ∃ u, mg "MOST_PLACES" = some u ∧ RelV (.int 14) u
section
variable {K : PySem.W.Frag} {σ : L2.St} {H H' : Hp} {te tb : TE} {ta tr : TA} {C : Addr} {Cs : List Addr}
theorem ev_repL {xs : List V} {z : Str} (h : EvL te σ H xs) (hs : ∀ p H1, H1 p = some (.lst xs) → Shw K H1 (.ref p) z) : Ev (tCB (rRepr K) (tCons te tNil)) σ H (.str z) := fun H1 e Q q =>
  h H1 e _ fun p H2 _ e2 hp => by
    obtain ⟨d, h1, h2, h3, h4, _, rfl⟩ := hs p H2 hp
    exact ⟨.ref p, d, rfl, h1, h2, h3, sz_of (by omega), q H2 e2⟩
/-- new lists of ints, told by their rows -/
abbrev Rws (H : Hp) : List Addr → List (List Int) → Prop := Paired fun p r => H p = some (.lst (r.map V.int))
theorem Rws.ex (e : Ex H H') : ∀ {ps : List Addr} {rs : List (List Int)}, Rws H ps rs → Rws H' ps rs
  | _, _, .nil => .nil
  | _, _, .cons h t => .cons (e _ _ h) (Rws.ex e t)
def dInts (r : List Int) : PyData := .list (r.map PyData.int)
theorem dpa_ints : ∀ r : List Int, DpAll K H (r.map V.int) (r.map PyData.int)
  | [] => .nil
  | i :: r => .cons (.int i) (dpa_ints r)
theorem Rws.dp : ∀ {ps : List Addr} {rs : List (List Int)}, Rws H ps rs → DpAll K H (ps.map V.ref) (rs.map dInts)
  | _, _, .nil => .nil
  | _, _, .cons h t => .cons (.lst (sq_of h) (dpa_ints _)) (Rws.dp t)
theorem Rws.of_all : ∀ (ps : List Addr) (rs : List (List Int)), ps.length = rs.length → (∀ i p, ps[i]? = some p → H p = some (.lst ((rs.getD i []).map V.int))) → Rws H ps rs
  | [], [], _, _ => .nil
  | p :: ps, r :: rs, h, hA => .cons (hA 0 p rfl) (Rws.of_all ps rs (Nat.succ.inj h) fun i q hq => hA (i + 1) q hq)
def EvRs (ta : TA) (σ : L2.St) (H : Hp) (rs : List (List Int)) : Prop := ∀ H1, Ex H H1 → ∀ Q : List V → Hp → Prop, (∀ ps H2, Ex H1 H2 → Rws H2 ps rs → Q (ps.map V.ref) H2) → ta σ H1 Q
theorem ers_nil : EvRs tNil σ H [] := fun H1 _ _ q => q [] H1 (Ex.refl H1) .nil
theorem ers_cons {row : List Int} {rs : List (List Int)} (h : EvL te σ H (row.map V.int)) (hr : EvRs tr σ H rs) : EvRs (tCons te tr) σ H (row :: rs) := fun H1 e _ q =>
  h H1 e _ fun p H2 _ e2 hp => hr H2 (e.trans e2) _ fun ps H3 e3 x => q (p :: ps) H3 (e2.trans e3) (.cons (e3 _ _ hp) x)
theorem et_lists {rs : List (List Int)} (hl : EvLL te σ H rs.length fun i => (rs.getD i []).map V.int) (hr : EvRs ta σ H rs) (hz : rs.length ≤ 1000) (hs : SeqAt.shaped (.list (rs.map dInts)) = true) (he : PyData.eqv (.list (rs.map dInts)) (.list (rs.map dInts)) = true) :
    EvT (tTest (tOp (rNeD K) te (tLst ta))) σ H false := by
  refine et_test fun H1 e Q q => ?_
  refine hl H1 e _ fun p ps H2 n2 e2 hp hlen hA => ?_
  refine hr H2 (e.trans e2) _ fun qs H3 e3 x => ⟨by rw [List.length_map, Paired.length x]; exact sz_of (by omega), fun l hl => ?_⟩
  have E4 := e3.trans (Ex.new (o := .lst (qs.map V.ref)) hl)
  refine ⟨_, _, .lst (sq_of (E4 _ _ hp)) (Rws.dp (Rws.of_all ps rs hlen fun i r hi => E4 _ _ (hA i r hi))), .lst (sq_of upd_same) (Rws.dp (Rws.ex (Ex.new hl) x)), hs, hs, ?_⟩
  rw [he]
  exact q _ (e2.trans E4)
/-- bare errors -/
abbrev Brs (H : Hp) : List Addr → List Addr → Prop := Paired fun a C => H a = some (exo a C none)
theorem Brs.ex (e : Ex H H') : ∀ {ps Cs : List Addr}, Brs H ps Cs → Brs H' ps Cs
  | _, _, .nil => .nil
  | _, _, .cons h t => .cons (e _ _ h) (Brs.ex e t)
theorem Brs.at : ∀ {ps Cs : List Addr}, Brs H ps Cs → ∀ {i : Nat} {x : V}, (ps.map V.ref)[i]? = some x → ∃ a C, x = .ref a ∧ Cs[i]? = some C ∧ H a = some (exo a C none)
  | _, _, .nil, i, x, h => by simp at h
  | _, _, .cons (a := p) (b := C) h t, 0, x, e => ⟨p, C, (Option.some.inj e).symm, rfl, h⟩
  | _, _, .cons h t, i + 1, x, e => Brs.at t (i := i) e
def EvBs (ta : TA) (σ : L2.St) (H : Hp) (Cs : List Addr) : Prop := ∀ H1, Ex H H1 → ∀ Q : List V → Hp → Prop, (∀ ps H2, Ex H1 H2 → Brs H2 ps Cs → Q (ps.map V.ref) H2) → ta σ H1 Q
theorem ebs_nil : EvBs tNil σ H [] := fun H1 _ _ q => q [] H1 (Ex.refl H1) .nil
theorem ebs_cons (hr : EvBs tr σ H Cs) : EvBs (tCons (tX0 C) tr) σ H (C :: Cs) := fun H1 e _ q =>
  fun a H2 e2 h => hr H2 (e.trans e2) _ fun ps H3 e3 x => q (a :: ps) H3 (Ex.trans e2 e3) (.cons (e3 _ _ h) x)
theorem qs_bare {i : Nat} {D : Ends} {tz : TS} (h : EvBs ta σ H Cs) (hz : Cs.length ≤ 1000) (k : ∀ l ps H1, Ex H H1 → H1 l = some (.lst (ps.map V.ref)) → Brs H1 ps Cs → tz D (σ.set i (some (.ref l))) H1) : tSeq (tAsg (tLst ta) (gName i)) tz D σ H :=
  h H (Ex.refl H) _ fun ps H1 e x => ⟨by rw [List.length_map, Paired.length x]; exact sz_of (by omega), fun l hl => k l ps _ (e.trans (Ex.new hl)) upd_same (Brs.ex (Ex.new hl) x)⟩
/-- one turn: a jar, all errors with what it draws -/
theorem ev_turn {a : Addr} {ns : List Int} {t : Int} {i j : Nat} {E1 E2 : XK} (h0 : σ[i]? = some (some (.ref a))) (h1 : σ[j]? = some (some (.int t))) (ha : SqL K H a (ns.map V.int)) (hn : ns.length ≤ 63) (ht : 0 ≤ t ∧ t < 1000) :
    Ev (tCall spRight [] E1 (tCons (tCall (spJar K) [] E2 (tCons (tVar i) (tCons (tVar j) tNil))) tNil)) σ H (.bl true) := fun H1 e Q q =>
  ⟨.ref a, h0, .int t, h1, a, ns, t, rfl, ex_l e ha, hn, ht.1, ht.2, fun p H2 n2 s2 hj => ⟨p, rfl, hj, fun H3 b3 => q H3 fun b o hb => b3 b o (fun z => by
    rw [z, n2] at hb
    cases hb) (s2 b o hb)⟩⟩
theorem ev_all {xs : List V} {bs : List Bool} (h : EvL te σ H xs) (e : xs = bs.map V.bl) : Ev (tCB (rAll K) (tCons te tNil)) σ H (.bl (bs.all id)) := fun H1 e1 Q q =>
  h H1 e1 _ fun p H2 _ e2 hp => ⟨p, bs, rfl, by rw [← e]; exact sq_of hp, q H2 e2⟩
end
section
variable {P : Program} {w : World} {K : PySem.W.Frag} {mg : Str → Option Value} {base : Heap} {f fr : Addr} {fd fdr : FuncData}
abbrev bareCs (K : PySem.W.Frag) : List Addr := [He.ga K "NotRight", He.ga K "NothingToUndo", He.ga K "WrongValue", He.ga K "WrongName", He.ga K "NoAnswer"]
abbrev bareR : List (List Int) := [[17, 52, 55], [22, 52, 55], [50, 53], [51, 54], [52, 55]]
theorem bare_k (T : Tx P w K mg base) (Z : Kits K) : ∀ (t : Nat) (C : Addr), (bareCs K)[t]? = some C → ∃ b bs, XC K C b ∧ (∀ (j : Nat) (c : Value), (tc K)[j]? = some c → PySem.W.kitOne K (.ref C) c = some (bs.getD j false)) ∧ sortsOf bs = bareR.getD t []
  | 0, C, ht => by
    obtain rfl := Option.some.inj ht
    exact ⟨_, bsOf 17 2, T.d_NotRight.T, Z 17 _ rfl, by decide +kernel⟩
  | 1, C, ht => by
    obtain rfl := Option.some.inj ht
    exact ⟨_, bsOf 22 2, T.d_NothingToUndo.T, Z 22 _ rfl, by decide +kernel⟩
  | 2, C, ht => by
    obtain rfl := Option.some.inj ht
    exact ⟨_, bsOf 99 0, T.d_WrongValue.T, Z 23 _ rfl, by decide +kernel⟩
  | 3, C, ht => by
    obtain rfl := Option.some.inj ht
    exact ⟨_, bsOf 99 1, T.d_WrongName.T, Z 24 _ rfl, by decide +kernel⟩
  | 4, C, ht => by
    obtain rfl := Option.some.inj ht
    exact ⟨_, bsOf 99 2, T.d_NoAnswer.T, Z 25 _ rfl, by decide +kernel⟩
  | _ + 5, _, ht => by simp at ht
def dLim : PyData := .list [.int 8, .int 10, .int 24, .int 1000000000, .int 60, .int 1000000000000000000000000000000, .int 100000000000000000000000000000000, .int 14]
theorem good_lim : good dLim = true := by decide +kernel
theorem shw_lim {H : Hp} {p : Addr} (h : H p = some (.lst [.int 8, .int 10, .int 24, .int 1000000000, .int 60, .int 1000000000000000000000000000000, .int 100000000000000000000000000000000, .int 14])) : Shw K H (.ref p) dLim.shown := by
  have g := good_lim
  obtain ⟨g1, g2⟩ := Bool.and_eq_true_iff.mp g
  obtain ⟨g2, g3⟩ := Bool.and_eq_true_iff.mp g2
  obtain ⟨g3, g4⟩ := Bool.and_eq_true_iff.mp g3
  exact ⟨dLim, .dp (.lst (sq_of h) (.cons (.int _) (.cons (.int _) (.cons (.int _) (.cons (.int _) (.cons (.int _) (.cons (.int _) (.cons (.int _) (.cons (.int _) .nil))))))))) rfl, g1, of_decide_eq_true g2, of_decide_eq_true g3, g4, rfl⟩
def spLaw (K : PySem.W.Frag) : Sp := fun vs H Q _ => ∃ (a : Addr) (ns : List Int), vs = [.ref a] ∧ SqL K H a (ns.map V.int) ∧ ns.length ≤ 63 ∧ ∀ H', Q (.bl true) H'
/-- a def under no repr, by its name -/
structure CalG (P : Program) (w : World) (K : PySem.W.Frag) (mg : Str → Option Value) (base : Heap) (k : Nat) (x : Str) (sp : Sp) : Prop where
  ok : ∃ (f : Addr) (fd : FuncData) (ps : List Str), FnG P w K mg base CX0 k f fd ps sp ∧ mg x = some (.ref f) ∧ PySem.W.keepIn K (.ref f) = true ∧ Binds K fd ps []
theorem pe_cg {X : Cx} {k j : Nat} {x : Str} {sp : Sp} {p pos : Pos} {e : Expr} {es : List Expr} {t : TA} (c : CalG X.prog X.w X.K X.mg X.base k x sp) (g : X.A.guards = some []) (hr : Room j X.A) (hk : k ≤ j) (hg : Gl X x) (hx : Passes CX0 X C8.E0) (ha : PA X (e :: es) t)
    (hdb : (x == ("__debug__" : Str)) = false := by decide) (he : starEach (e :: es) X.env = (false, eval e X.env) :: starEach es X.env := by rfl) (hpl : (backTo pos (starEach es X.env)).any (·.1) = false := by rfl) :
    PE X (.Call (.Name x p) (e :: es) [] pos) (tCall sp [] C8.E0 t) := by
  obtain ⟨f, fd, ps, F, h1, h2, h3⟩ := c.ok
  exact pe_g g F (hr.mono hk) hg h1 h2 h3 .nil hx ha hdb he hpl
abbrev sc_law_N : List Str := ["_law_cells", "_law_told", "_law_bare", "_law_e", "_law_turn"]
theorem sc_law : FnScope sc_law_N ["_law_cells"] (defScope s_law) := ⟨rfl, rfl, rfl, by decide +kernel, rfl, by decide +kernel, by decide +kernel⟩
theorem ok_law (F : FnP K "law" s_law f fd) (T : Tx P w K mg base) (M : Tm mg) (Z : Kits K) (C_law_sorts : Cal P w K mg base 5 "_law_sorts" (spSorts K) []) (C_law_jar : Cal P w K mg base 5 "_law_jar" (spJar K) [])
    (C_law_right : CalG P w K mg base 5 "_law_right" spRight) : FnG P w K mg base CX0 6 f fd ["_law_cells"] (spLaw K) := by
  refine FnG.body F sc_law (fun vs H Q E h => ?_) (fun cdv A outer s H vs Q E g hr h => ?_)
  · obtain ⟨a, ns, rfl, _⟩ := h
    rfl
  · obtain ⟨a, ns, rfl, ha, hn, k⟩ := h
    have hr2 := hr.mono (by decide : 2 ≤ 5)
    have hu := hr.units
    refine ⟨_, PSs.nox (pss_cons (ps_set (i := 1) sc_law.nd rfl (.inl rfl) (pe_lst (pa_cons (pe_gc (by rfl) M.c_MOST_COLUMNS) (pa_cons (pe_gc (by rfl) M.c_MOST_SUMS) (pa_cons (pe_gc (by rfl) M.c_MOST_DATA) (pa_cons (pe_gc (by rfl) M.c_MOST_DIAL) (pa_cons (pe_gc (by rfl) M.c_MOST_BITS) (pa_cons (pe_gc (by rfl) M.c_MOST_VALUE) (pa_cons (pe_gc (by rfl) M.c_MOST_SUM) (pa_cons (pe_gc (by rfl) M.c_MOST_PLACES) pa_nil))))))))))
  (pss_cons (ps_if (pt_cmpR op_ne (pe_callB (call_repr g hu) (by rfl) T.n_repr (by decide +kernel) (pa_cons (pv 1) pa_nil)) (pe_callB (call_repr g hu) (by rfl) T.n_repr (by decide +kernel) (pa_cons (pe_lst (pa_cons pe_int (pa_cons pe_int (pa_cons pe_int (pa_cons (pe_op op_pow pe_int pe_int) (pa_cons pe_int (pa_cons (pe_op op_pow pe_int pe_int) (pa_cons (pe_op op_pow pe_int pe_int) (pa_cons pe_int pa_nil))))))))) pa_nil)) (nomark _))
  (pss_one (ps_ret pe_bl))
  pss_nil)
  (pss_cons (ps_set (i := 2) sc_law.nd rfl (.inl rfl) (pe_lst (pa_cons (pe_x0 T.d_NotRight hr2) (pa_cons (pe_x0 T.d_NothingToUndo hr2) (pa_cons (pe_x0 T.d_WrongValue hr2) (pa_cons (pe_x0 T.d_WrongName hr2) (pa_cons (pe_x0 T.d_NoAnswer hr2) pa_nil)))))))
  (pss_cons (ps_if (pt_cmpR (op_neD hr.units) (pe_lc (own := [("_law_e", 3)]) (g := gName 3) (tt := tYes) rfl sc_law.nd (pi_list (pv 2)) (blkOk_by (own := [("_law_e", 3)]) (N := sc_law_N) (sc := defScope s_law) (by decide +kernel)) (fun _ _ _ _ _ => (pg_name (i := 3) sc_law.nd rfl (.inl rfl))) (fun _ _ _ _ _ => pts_nil) (fun _ _ _ _ _ => (pe_c C_law_sorts hr (by decide) rfl (pa_cons (pv 3) pa_nil)))) (pe_lst (pa_cons (pe_lst (pa_cons pe_int (pa_cons pe_int (pa_cons pe_int pa_nil)))) (pa_cons (pe_lst (pa_cons pe_int (pa_cons pe_int (pa_cons pe_int pa_nil)))) (pa_cons (pe_lst (pa_cons pe_int (pa_cons pe_int pa_nil))) (pa_cons (pe_lst (pa_cons pe_int (pa_cons pe_int pa_nil))) (pa_cons (pe_lst (pa_cons pe_int (pa_cons pe_int pa_nil))) pa_nil)))))) (nomark _))
  (pss_one (ps_ret pe_bl))
  pss_nil)
  (pss_one (ps_ret (pe_callB (cr_all rfl) (by rfl) T.n_all (by decide +kernel) (pa_cons (pe_lc (own := [("_law_turn", 4)]) (g := gName 4) (tt := tYes) rfl sc_law.nd (pi_range1 rfl T.n_range (pa_cons (pe_callB (call_max2 rfl) (by rfl) T.n_max (by decide +kernel) (pa_cons pe_int (pa_cons (pe_callB (call_min2 rfl) (by rfl) T.n_min (by decide +kernel) (pa_cons (pe_callB call_len_seq (by rfl) T.n_len PySem.boot_len (pa_cons (pv 0) pa_nil)) (pa_cons pe_int pa_nil))) pa_nil))) pa_nil)) (blkOk_by (own := [("_law_turn", 4)]) (N := sc_law_N) (sc := defScope s_law) (by decide +kernel)) (fun _ _ _ _ _ => (pg_name (i := 4) sc_law.nd rfl (.inl rfl))) (fun _ _ _ _ _ => pts_nil) (fun _ _ _ _ _ => (pe_cg C_law_right g hr (by decide) rfl C8.pass0 (pa_cons (pe_c C_law_jar hr (by decide) rfl (pa_cons (pv 0) (pa_cons (pv 4) pa_nil))) pa_nil)))) pa_nil)))))))), ?_⟩
    refine q_asgL (xs := [.int 8, .int 10, .int 24, .int 1000000000, .int 60, .int 1000000000000000000000000000000, .int 100000000000000000000000000000000, .int 14]) (el_lst (ea_cons ev_c (ea_cons ev_c (ea_cons ev_c (ea_cons ev_c (ea_cons ev_c (ea_cons ev_c (ea_cons ev_c (ea_cons ev_c ea_nil)))))))) (Nat.le_of_ble_eq_true rfl)) fun p H1 _ e1 hp => ?_
    refine q_when (et_is (et_test (ev_op (ev_rep (ev_var rfl) (shw_lim hp)) (ev_repL (el_lst (ea_cons ev_c (ea_cons ev_c (ea_cons ev_c (ea_cons (ev_is (ev_op ev_c ev_c (rv_I ⟨by decide, by decide, by decide⟩)) (congrArg V.int (by decide +kernel))) (ea_cons ev_c (ea_cons (ev_is (ev_op ev_c ev_c (rv_I ⟨by decide, by decide, by decide⟩)) (congrArg V.int (by decide +kernel))) (ea_cons (ev_is (ev_op ev_c ev_c (rv_I ⟨by decide, by decide, by decide⟩)) (congrArg V.int (by decide +kernel))) (ea_cons ev_c ea_nil)))))))) (Nat.le_of_ble_eq_true rfl)) fun p H1 h => shw_lim h) (rv_ne rfl))) (b := false) (by simp)) (fun z => (nomatch z)) fun _ H2 e2 => ?_
    refine qs_bare (Cs := bareCs K) (ebs_cons (ebs_cons (ebs_cons (ebs_cons (ebs_cons ebs_nil))))) (Nat.le_of_ble_eq_true rfl) fun l ps H3 e3 hl hb => ?_
    have hll : ps.length = bareR.length := (Paired.length hb : ps.length = (bareCs K).length)
    refine q_when (et_lists (rs := bareR) ?hl (ers_cons (row := [17, 52, 55]) (el_lst (ea_cons ev_c (ea_cons ev_c (ea_cons ev_c ea_nil))) (Nat.le_of_ble_eq_true rfl)) (ers_cons (row := [22, 52, 55]) (el_lst (ea_cons ev_c (ea_cons ev_c (ea_cons ev_c ea_nil))) (Nat.le_of_ble_eq_true rfl)) (ers_cons (row := [50, 53]) (el_lst (ea_cons ev_c (ea_cons ev_c ea_nil)) (Nat.le_of_ble_eq_true rfl)) (ers_cons (row := [51, 54]) (el_lst (ea_cons ev_c (ea_cons ev_c ea_nil)) (Nat.le_of_ble_eq_true rfl)) (ers_cons (row := [52, 55]) (el_lst (ea_cons ev_c (ea_cons ev_c ea_nil)) (Nat.le_of_ble_eq_true rfl)) ers_nil))))) (Nat.le_of_ble_eq_true rfl) (by decide +kernel) (by decide +kernel)) (fun z => (nomatch z)) fun _ H4 e4 => ?_
    case hl =>
      have e : bareR.length = (ps.map V.ref).length := by rw [List.length_map, hll]
      rw [e]
      refine el_lc2 (K := K) (xs := ps.map V.ref) _ (ev_var rfl) (sq_of hl) (by rw [List.length_map, hll]; exact Nat.le_of_ble_eq_true rfl) (fun _ => rfl) fun t x H4 e4 ht => ?_
      obtain ⟨a, C, rfl, hC, hx⟩ := Brs.at hb ht
      obtain ⟨b, bs, k1, k2, k3⟩ := bare_k T Z t C hC
      show EvL _ _ _ ((bareR.getD t []).map V.int)
      rw [← k3]
      exact el_sorts (E := C8.E0) (ev_var rfl) k1 (XnAt.on ⟨none, hx, fun _ z => (nomatch z)⟩ e4) k2
    have E4 := ((e1.trans e2).trans e3).trans e4
    have hN : ∃ n : Int, n = (if (if (6 : Int) < (ns.length : Int) then 6 else (ns.length : Int)) > 2 then (if (6 : Int) < (ns.length : Int) then 6 else (ns.length : Int)) else 2) ∧ 0 ≤ n ∧ n ≤ 6 := ⟨_, rfl, by split <;> split <;> omega, by split <;> split <;> omega⟩
    obtain ⟨n, en, hn0, hn6⟩ := hN
    have hEn : EvA (tCons (tCB rMax2 (tCons (tC (.int 2)) (tCons (tCB (fun xs H Q => ∃ i j, xs = [V.int i, V.int j] ∧ Q (.int (if j < i then j else i)) H) (tCons (tCB (rLenS K) (tCons (tVar 0) tNil)) (tCons (tC (.int 6)) tNil))) tNil))) tNil) [some (V.ref a), some (V.ref p), some (V.ref l), none, none] H4 [.int n] := by
      rw [en]
      exact ea_cons (ev_max2 ev_c (ev_cb (ea_cons (ev_len (ev_var rfl) (ex_l E4 ha)) (ea_cons ev_c ea_nil)) fun H1 e Q q => ⟨_, _, rfl, by rw [List.length_map]; exact q H1 (Ex.refl H1)⟩)) ea_nil
    have hl := el_lcR1 (vs := [4]) (j := 4) (t := tYes) (fun _ => true) (fun _ => V.bl true) hEn ⟨hn0, by omega⟩ (fun _ => rfl) (fun i H1 e1 hi => fun H2 e2 Q q => q H2 (Ex.refl H2)) (fun i H5 e5 hi _ => ev_turn (K := K) (i := 0) (j := 4) (E1 := C8.E0) (E2 := C8.E0) rfl rfl (ex_l (E4.trans e5) ha) hn ⟨by omega, by omega⟩)
    refine s_ret (v := V.bl true) (ev_is (ev_all (K := K) (bs := ((List.range n.toNat).filter fun _ => true).map fun _ => true) hl (by unfold given; rw [List.map_map]; rfl)) (congrArg V.bl (by rw [List.all_eq_true]; intro x hx; obtain ⟨_, _, rfl⟩ := List.mem_map.mp hx; rfl))) fun H5 e5 => k H5
end
end K01
end
section
set_option Elab.async false
set_option linter.all false
set_option maxRecDepth 100000
set_option maxHeartbeats 0
namespace K01
open PySem PySem.Spec PyProof.Rows L2 XV RP GL
open C8 (Cal pe_c pe_gc)
/-! ### the head -/
def iniS (i : Nat) : Stmt := (C8.clsBody (top i)).getD 0 (.Pass ⟨0, 0, 0, 0⟩)
def dG (x : Str) (st : Stmt) : He.DefD := ⟨(x, none), x, x, defArgs st, defBody st, defScope st, [], []⟩
def dI (x q : Str) (st : Stmt) : He.DefD := ⟨(x, some "__init__"), "__init__", q, defArgs st, defBody st, defScope st, [], []⟩
def fnA : List He.DefD := [dG "_law_dip" (top 36), dG "_law_one_of" (top 37), dG "_law_jar" (top 38), dG "_law_sorts" (top 39), dG "_law_given_errors" (top 40), dG "_law_index_errors" (top 41), dG "_law_right" (top 42), dG "law" (top 43)]
def fnB : List He.DefD := [dI "InvalidText" "InvalidText.__init__" (iniS 2), dI "InvalidName" "InvalidName.__init__" (iniS 3), dI "InvalidKind" "InvalidKind.__init__" (iniS 4), dI "InvalidWish" "InvalidWish.__init__" (iniS 5), dI "InvalidIndex" "InvalidIndex.__init__" (iniS 6), dI "InvalidNumber" "InvalidNumber.__init__" (iniS 7), dI "InvalidLine" "InvalidLine.__init__" (iniS 8), dI "NotATable" "NotATable.__init__" (iniS 9), dI "InvalidColumns" "InvalidColumns.__init__" (iniS 10), dI "InvalidValues" "InvalidValues.__init__" (iniS 11), dI "InvalidCells" "InvalidCells.__init__" (iniS 12), dI "InvalidLost" "InvalidLost.__init__" (iniS 13), dI "InvalidNames" "InvalidNames.__init__" (iniS 14), dI "InvalidRounds" "InvalidRounds.__init__" (iniS 15), dI "InvalidDeeds" "InvalidDeeds.__init__" (iniS 16)]
def fnC : List He.DefD := [dI "UnknownName" "UnknownName.__init__" (iniS 18), dI "NotLost" "NotLost.__init__" (iniS 19), dI "NotRight" "NoAnswer.__init__" (iniS 20), dI "NotBack" "NotBack.__init__" (iniS 22), dI "NotReady" "NotReady.__init__" (iniS 23), dI "Broken" "Broken.__init__" (iniS 24), dI "InUse" "InUse.__init__" (iniS 25), dI "NothingToUndo" "NoAnswer.__init__" (iniS 20), dI "WrongValue" "WrongValue.__init__" (iniS 1), dI "WrongName" "WrongName.__init__" (iniS 17), dI "NoAnswer" "NoAnswer.__init__" (iniS 20)]
def fn : List He.DefD := fnA ++ fnB ++ fnC
def faA : List He.Fa := [.glo "_law_dip", .glo "_law_one_of", .glo "_law_jar", .glo "_law_sorts", .glo "_law_given_errors", .glo "_law_index_errors", .glo "_law_right", .glo "law", .glo "InvalidText", .glo "InvalidName", .glo "InvalidKind", .glo "InvalidWish", .glo "InvalidIndex", .glo "InvalidNumber", .glo "InvalidLine", .glo "NotATable", .glo "InvalidColumns", .glo "InvalidValues", .glo "InvalidCells", .glo "InvalidLost"]
def faB : List He.Fa := [.glo "InvalidNames", .glo "InvalidRounds", .glo "InvalidDeeds", .glo "UnknownName", .glo "NotLost", .glo "NotRight", .glo "NotBack", .glo "NotReady", .glo "Broken", .glo "InUse", .glo "NothingToUndo", .glo "WrongValue", .glo "WrongName", .glo "NoAnswer", .free "len", .free "int", .free "abs", .free "divmod", .free "isinstance", .free "repr"]
def faC : List He.Fa := [.free "range", .free "enumerate", .free "all", .free "min", .free "max", .free "ValueError", .free "LookupError", .free "ArithmeticError", .int "MOST_COLUMNS" 8, .int "MOST_SUMS" 10, .int "MOST_DATA" 24, .int "MOST_DIAL" 1000000000, .int "MOST_BITS" 60, .int "MOST_VALUE" 1000000000000000000000000000000, .int "MOST_SUM" 100000000000000000000000000000000, .int "MOST_PLACES" 14]
def fa : List He.Fa := faA ++ faB ++ faC
def clsT : List (Str × Bs × Option Str) := [("InvalidText", .ve, some "given"), ("InvalidName", .ve, some "given"), ("InvalidKind", .ve, some "given"), ("InvalidWish", .ve, some "given"), ("InvalidIndex", .ve, some "given"), ("InvalidNumber", .ve, some "given"), ("InvalidLine", .ve, some "given"), ("NotATable", .ve, some "given"), ("InvalidColumns", .ve, some "index"), ("InvalidValues", .ve, some "index"), ("InvalidCells", .ve, some "index"), ("InvalidLost", .ve, some "index"), ("InvalidNames", .ve, some "index"), ("InvalidRounds", .ve, some "index"), ("InvalidDeeds", .ve, some "index"), ("UnknownName", .le, some "given"), ("NotLost", .le, some "given"), ("NotRight", .ae, none), ("NotBack", .ae, some "given"), ("NotReady", .ae, some "given"), ("Broken", .ae, some "index"), ("InUse", .ae, some "index"), ("NothingToUndo", .ae, none), ("WrongValue", .ve, none), ("WrongName", .le, none), ("NoAnswer", .ae, none)]
def ownC (K : PySem.W.Frag) (t : Str × Bs × Option Str) : Bool := xcB K (He.ga K t.1) t.2.1 && (t.2.2.elim true (fun f => eqb (PySem.W.findIn K (.ref (He.ga K t.1)) f) (some none)) && (eqb (PySem.W.findIn K (.ref (He.ga K t.1)) "__init__") (some (some (.ref (He.ma K (He.ga K t.1) "__init__")))) &&
  decide (PySem.W.typeIn K (.ref (He.ma K (He.ga K t.1) "__init__")) = some (.type "function"))))
def ownB (K : PySem.W.Frag) : Bool := clsT.all (ownC K) && kitsB K
theorem own_at {K : PySem.W.Frag} (o : ownB K = true) (i : Nat) {x : Str} {b : Bs} {f : Option Str} (h : clsT[i]? = some (x, b, f)) : XC K (He.ga K x) b ∧ (∀ g, f = some g → PySem.W.findIn K (.ref (He.ga K x)) g = some none) ∧
    PySem.W.findIn K (.ref (He.ga K x)) "__init__" = some (some (.ref (He.ma K (He.ga K x) "__init__"))) ∧ PySem.W.typeIn K (.ref (He.ma K (He.ga K x) "__init__")) = some (.type "function") := by
  have z : ownC K (x, b, f) = true := List.all_eq_true.mp (two o).1 _ (List.mem_of_getElem? h)
  obtain ⟨z1, z⟩ := two z
  obtain ⟨z2, z⟩ := two z
  obtain ⟨z3, z4⟩ := two z
  refine ⟨xc_of z1, fun g e => ?_, of_decide_eq_true z3, of_decide_eq_true z4⟩
  have e2 : f = some g := e
  subst e2
  exact of_decide_eq_true z2
def hk : PySem.W.Hook where
  α := He.AlD × Bool
  obs := fun s => (He.obsDG 5 fa fn s.heap.get?, ownB (He.frG s.heap.get? (He.asD s.heap.get? 5)))
  val := fun _ => (He.valD fn, true)
  says := fun _ h => ∃ K : PySem.W.Frag, K.In h ∧ He.SaysD fa fn K ∧ ownB K = true
  of := fun _ s e => ⟨He.frG s.heap.get? (He.asD s.heap.get? 5), He.frG_in, congrArg Prod.fst e, congrArg Prod.snd e⟩
  keeps := fun _ _ _ ⟨K, hK, c⟩ k => ⟨K, PySem.W.Frag.In.keeps hK k, c⟩
def ob (s : PySem.W.SharedT) : He.AlD × Bool := (He.obsDG 5 fa fn (HandSHeadRun.getT s), ownB (He.frG (HandSHeadRun.getT s) (He.asD (HandSHeadRun.getT s) 5)))
theorem ob_eq (s : PySem.W.SharedT) : ob s = hk.obs s.abs := by
  have e : HandSHeadRun.getT s = s.abs.heap.get? := funext (HandSHeadRun.getT_eq s)
  unfold ob
  rw [e]
  rfl
section
variable {P : Program} {w : World} {K : PySem.W.Frag} {mg : Str → Option Value} {base h : Heap} {fd : FuncData} {x qual : Str} {C : Addr} {b : Bs} {p1 p2 q1 q2 q3 q4 : Pos} {fI : Addr}
theorem xd_given (F : FunD K "__init__" qual (iArgs "given" p1 p2) (iBody "given" q1 q2 q3 q4) (iScope "given") [] [] fI fd) (hT : XC K C b) (hg : mg x = some (.ref C)) (hno : PySem.W.findIn K (.ref C) "given" = some none) (hi : PySem.W.findIn K (.ref C) "__init__" = some (some (.ref fI)))
    (ht : PySem.W.typeIn K (.ref fI) = some (.type "function")) : XD P w K mg base x C b "given" := by
  refine ⟨hT, hg, hno, fI, fd, hi, ht, ok_given F, ?_, ?_⟩
  · intro s a u
    exact FunD.bindsA (ps := ["self", "given"]) F (fun _ _ _ _ _ _ us hl => match us, hl with | [_, _], _ => rfl) s [a, u] rfl
  · intro s a u
    obtain ⟨oc, od, dV, kV, doc, pm, an, cdv, ct, osl, rfl, lk, hcd, hD, hK⟩ := F.ex
    rcases hD with ⟨_, rfl⟩ | ⟨e, _⟩
    · exact .of_eq rfl
    · exact absurd rfl e
theorem xd_index (F : FunD K "__init__" qual (iArgs "index" p1 p2) (iBody "index" q1 q2 q3 q4) (iScope "index") [] [] fI fd) (hT : XC K C b) (hg : mg x = some (.ref C)) (hno : PySem.W.findIn K (.ref C) "index" = some none) (hi : PySem.W.findIn K (.ref C) "__init__" = some (some (.ref fI)))
    (ht : PySem.W.typeIn K (.ref fI) = some (.type "function")) : XD P w K mg base x C b "index" := by
  refine ⟨hT, hg, hno, fI, fd, hi, ht, ok_index F, ?_, ?_⟩
  · intro s a u
    exact FunD.bindsA (ps := ["self", "index"]) F (fun _ _ _ _ _ _ us hl => match us, hl with | [_, _], _ => rfl) s [a, u] rfl
  · intro s a u
    obtain ⟨oc, od, dV, kV, doc, pm, an, cdv, ct, osl, rfl, lk, hcd, hD, hK⟩ := F.ex
    rcases hD with ⟨_, rfl⟩ | ⟨e, _⟩
    · exact .of_eq rfl
    · exact absurd rfl e
theorem xe_pass (F : FunD K "__init__" qual (jArgs p1) [.Pass q1] jScope [] [] fI fd) (hT : XC K C b) (hg : mg x = some (.ref C)) (hi : PySem.W.findIn K (.ref C) "__init__" = some (some (.ref fI)))
    (ht : PySem.W.typeIn K (.ref fI) = some (.type "function")) : XE0 P w K mg base x C b := by
  refine ⟨hT, hg, fI, fd, hi, ht, ok_pass F, ?_⟩
  intro s a
  exact FunD.bindsA (ps := ["self"]) F (fun _ _ _ _ _ _ us hl => match us, hl with | [_], _ => rfl) s [a] rfl
theorem d_InvalidText (X : K.In h) (G : h.Ns mainGlobals mg) (c : He.SaysD fa fn K) (o : ownB K = true) : XD P w K mg base "InvalidText" (He.ga K "InvalidText") .ve "given" := by
  obtain ⟨fd, F⟩ := c.def_ 8 (d := dI "InvalidText" "InvalidText.__init__" (iniS 2)) rfl
  obtain ⟨h1, h2, h3, h4⟩ := own_at o 0 (x := "InvalidText") (b := .ve) (f := some "given") rfl
  exact xd_given F h1 (He.glo_ok X G (c.fact 8 (f := .glo "InvalidText") rfl)) (h2 _ rfl) h3 h4
theorem d_InvalidName (X : K.In h) (G : h.Ns mainGlobals mg) (c : He.SaysD fa fn K) (o : ownB K = true) : XD P w K mg base "InvalidName" (He.ga K "InvalidName") .ve "given" := by
  obtain ⟨fd, F⟩ := c.def_ 9 (d := dI "InvalidName" "InvalidName.__init__" (iniS 3)) rfl
  obtain ⟨h1, h2, h3, h4⟩ := own_at o 1 (x := "InvalidName") (b := .ve) (f := some "given") rfl
  exact xd_given F h1 (He.glo_ok X G (c.fact 9 (f := .glo "InvalidName") rfl)) (h2 _ rfl) h3 h4
theorem d_InvalidKind (X : K.In h) (G : h.Ns mainGlobals mg) (c : He.SaysD fa fn K) (o : ownB K = true) : XD P w K mg base "InvalidKind" (He.ga K "InvalidKind") .ve "given" := by
  obtain ⟨fd, F⟩ := c.def_ 10 (d := dI "InvalidKind" "InvalidKind.__init__" (iniS 4)) rfl
  obtain ⟨h1, h2, h3, h4⟩ := own_at o 2 (x := "InvalidKind") (b := .ve) (f := some "given") rfl
  exact xd_given F h1 (He.glo_ok X G (c.fact 10 (f := .glo "InvalidKind") rfl)) (h2 _ rfl) h3 h4
theorem d_InvalidWish (X : K.In h) (G : h.Ns mainGlobals mg) (c : He.SaysD fa fn K) (o : ownB K = true) : XD P w K mg base "InvalidWish" (He.ga K "InvalidWish") .ve "given" := by
  obtain ⟨fd, F⟩ := c.def_ 11 (d := dI "InvalidWish" "InvalidWish.__init__" (iniS 5)) rfl
  obtain ⟨h1, h2, h3, h4⟩ := own_at o 3 (x := "InvalidWish") (b := .ve) (f := some "given") rfl
  exact xd_given F h1 (He.glo_ok X G (c.fact 11 (f := .glo "InvalidWish") rfl)) (h2 _ rfl) h3 h4
theorem d_InvalidIndex (X : K.In h) (G : h.Ns mainGlobals mg) (c : He.SaysD fa fn K) (o : ownB K = true) : XD P w K mg base "InvalidIndex" (He.ga K "InvalidIndex") .ve "given" := by
  obtain ⟨fd, F⟩ := c.def_ 12 (d := dI "InvalidIndex" "InvalidIndex.__init__" (iniS 6)) rfl
  obtain ⟨h1, h2, h3, h4⟩ := own_at o 4 (x := "InvalidIndex") (b := .ve) (f := some "given") rfl
  exact xd_given F h1 (He.glo_ok X G (c.fact 12 (f := .glo "InvalidIndex") rfl)) (h2 _ rfl) h3 h4
theorem d_InvalidNumber (X : K.In h) (G : h.Ns mainGlobals mg) (c : He.SaysD fa fn K) (o : ownB K = true) : XD P w K mg base "InvalidNumber" (He.ga K "InvalidNumber") .ve "given" := by
  obtain ⟨fd, F⟩ := c.def_ 13 (d := dI "InvalidNumber" "InvalidNumber.__init__" (iniS 7)) rfl
  obtain ⟨h1, h2, h3, h4⟩ := own_at o 5 (x := "InvalidNumber") (b := .ve) (f := some "given") rfl
  exact xd_given F h1 (He.glo_ok X G (c.fact 13 (f := .glo "InvalidNumber") rfl)) (h2 _ rfl) h3 h4
theorem d_InvalidLine (X : K.In h) (G : h.Ns mainGlobals mg) (c : He.SaysD fa fn K) (o : ownB K = true) : XD P w K mg base "InvalidLine" (He.ga K "InvalidLine") .ve "given" := by
  obtain ⟨fd, F⟩ := c.def_ 14 (d := dI "InvalidLine" "InvalidLine.__init__" (iniS 8)) rfl
  obtain ⟨h1, h2, h3, h4⟩ := own_at o 6 (x := "InvalidLine") (b := .ve) (f := some "given") rfl
  exact xd_given F h1 (He.glo_ok X G (c.fact 14 (f := .glo "InvalidLine") rfl)) (h2 _ rfl) h3 h4
theorem d_NotATable (X : K.In h) (G : h.Ns mainGlobals mg) (c : He.SaysD fa fn K) (o : ownB K = true) : XD P w K mg base "NotATable" (He.ga K "NotATable") .ve "given" := by
  obtain ⟨fd, F⟩ := c.def_ 15 (d := dI "NotATable" "NotATable.__init__" (iniS 9)) rfl
  obtain ⟨h1, h2, h3, h4⟩ := own_at o 7 (x := "NotATable") (b := .ve) (f := some "given") rfl
  exact xd_given F h1 (He.glo_ok X G (c.fact 15 (f := .glo "NotATable") rfl)) (h2 _ rfl) h3 h4
theorem d_InvalidColumns (X : K.In h) (G : h.Ns mainGlobals mg) (c : He.SaysD fa fn K) (o : ownB K = true) : XD P w K mg base "InvalidColumns" (He.ga K "InvalidColumns") .ve "index" := by
  obtain ⟨fd, F⟩ := c.def_ 16 (d := dI "InvalidColumns" "InvalidColumns.__init__" (iniS 10)) rfl
  obtain ⟨h1, h2, h3, h4⟩ := own_at o 8 (x := "InvalidColumns") (b := .ve) (f := some "index") rfl
  exact xd_index F h1 (He.glo_ok X G (c.fact 16 (f := .glo "InvalidColumns") rfl)) (h2 _ rfl) h3 h4
theorem d_InvalidValues (X : K.In h) (G : h.Ns mainGlobals mg) (c : He.SaysD fa fn K) (o : ownB K = true) : XD P w K mg base "InvalidValues" (He.ga K "InvalidValues") .ve "index" := by
  obtain ⟨fd, F⟩ := c.def_ 17 (d := dI "InvalidValues" "InvalidValues.__init__" (iniS 11)) rfl
  obtain ⟨h1, h2, h3, h4⟩ := own_at o 9 (x := "InvalidValues") (b := .ve) (f := some "index") rfl
  exact xd_index F h1 (He.glo_ok X G (c.fact 17 (f := .glo "InvalidValues") rfl)) (h2 _ rfl) h3 h4
theorem d_InvalidCells (X : K.In h) (G : h.Ns mainGlobals mg) (c : He.SaysD fa fn K) (o : ownB K = true) : XD P w K mg base "InvalidCells" (He.ga K "InvalidCells") .ve "index" := by
  obtain ⟨fd, F⟩ := c.def_ 18 (d := dI "InvalidCells" "InvalidCells.__init__" (iniS 12)) rfl
  obtain ⟨h1, h2, h3, h4⟩ := own_at o 10 (x := "InvalidCells") (b := .ve) (f := some "index") rfl
  exact xd_index F h1 (He.glo_ok X G (c.fact 18 (f := .glo "InvalidCells") rfl)) (h2 _ rfl) h3 h4
theorem d_InvalidLost (X : K.In h) (G : h.Ns mainGlobals mg) (c : He.SaysD fa fn K) (o : ownB K = true) : XD P w K mg base "InvalidLost" (He.ga K "InvalidLost") .ve "index" := by
  obtain ⟨fd, F⟩ := c.def_ 19 (d := dI "InvalidLost" "InvalidLost.__init__" (iniS 13)) rfl
  obtain ⟨h1, h2, h3, h4⟩ := own_at o 11 (x := "InvalidLost") (b := .ve) (f := some "index") rfl
  exact xd_index F h1 (He.glo_ok X G (c.fact 19 (f := .glo "InvalidLost") rfl)) (h2 _ rfl) h3 h4
theorem d_InvalidNames (X : K.In h) (G : h.Ns mainGlobals mg) (c : He.SaysD fa fn K) (o : ownB K = true) : XD P w K mg base "InvalidNames" (He.ga K "InvalidNames") .ve "index" := by
  obtain ⟨fd, F⟩ := c.def_ 20 (d := dI "InvalidNames" "InvalidNames.__init__" (iniS 14)) rfl
  obtain ⟨h1, h2, h3, h4⟩ := own_at o 12 (x := "InvalidNames") (b := .ve) (f := some "index") rfl
  exact xd_index F h1 (He.glo_ok X G (c.fact 20 (f := .glo "InvalidNames") rfl)) (h2 _ rfl) h3 h4
theorem d_InvalidRounds (X : K.In h) (G : h.Ns mainGlobals mg) (c : He.SaysD fa fn K) (o : ownB K = true) : XD P w K mg base "InvalidRounds" (He.ga K "InvalidRounds") .ve "index" := by
  obtain ⟨fd, F⟩ := c.def_ 21 (d := dI "InvalidRounds" "InvalidRounds.__init__" (iniS 15)) rfl
  obtain ⟨h1, h2, h3, h4⟩ := own_at o 13 (x := "InvalidRounds") (b := .ve) (f := some "index") rfl
  exact xd_index F h1 (He.glo_ok X G (c.fact 21 (f := .glo "InvalidRounds") rfl)) (h2 _ rfl) h3 h4
theorem d_InvalidDeeds (X : K.In h) (G : h.Ns mainGlobals mg) (c : He.SaysD fa fn K) (o : ownB K = true) : XD P w K mg base "InvalidDeeds" (He.ga K "InvalidDeeds") .ve "index" := by
  obtain ⟨fd, F⟩ := c.def_ 22 (d := dI "InvalidDeeds" "InvalidDeeds.__init__" (iniS 16)) rfl
  obtain ⟨h1, h2, h3, h4⟩ := own_at o 14 (x := "InvalidDeeds") (b := .ve) (f := some "index") rfl
  exact xd_index F h1 (He.glo_ok X G (c.fact 22 (f := .glo "InvalidDeeds") rfl)) (h2 _ rfl) h3 h4
theorem d_UnknownName (X : K.In h) (G : h.Ns mainGlobals mg) (c : He.SaysD fa fn K) (o : ownB K = true) : XD P w K mg base "UnknownName" (He.ga K "UnknownName") .le "given" := by
  obtain ⟨fd, F⟩ := c.def_ 23 (d := dI "UnknownName" "UnknownName.__init__" (iniS 18)) rfl
  obtain ⟨h1, h2, h3, h4⟩ := own_at o 15 (x := "UnknownName") (b := .le) (f := some "given") rfl
  exact xd_given F h1 (He.glo_ok X G (c.fact 23 (f := .glo "UnknownName") rfl)) (h2 _ rfl) h3 h4
theorem d_NotLost (X : K.In h) (G : h.Ns mainGlobals mg) (c : He.SaysD fa fn K) (o : ownB K = true) : XD P w K mg base "NotLost" (He.ga K "NotLost") .le "given" := by
  obtain ⟨fd, F⟩ := c.def_ 24 (d := dI "NotLost" "NotLost.__init__" (iniS 19)) rfl
  obtain ⟨h1, h2, h3, h4⟩ := own_at o 16 (x := "NotLost") (b := .le) (f := some "given") rfl
  exact xd_given F h1 (He.glo_ok X G (c.fact 24 (f := .glo "NotLost") rfl)) (h2 _ rfl) h3 h4
theorem d_NotRight (X : K.In h) (G : h.Ns mainGlobals mg) (c : He.SaysD fa fn K) (o : ownB K = true) : XE0 P w K mg base "NotRight" (He.ga K "NotRight") .ae := by
  obtain ⟨fd, F⟩ := c.def_ 25 (d := dI "NotRight" "NoAnswer.__init__" (iniS 20)) rfl
  obtain ⟨h1, h2, h3, h4⟩ := own_at o 17 (x := "NotRight") (b := .ae) (f := none) rfl
  exact xe_pass F h1 (He.glo_ok X G (c.fact 25 (f := .glo "NotRight") rfl)) h3 h4
theorem d_NotBack (X : K.In h) (G : h.Ns mainGlobals mg) (c : He.SaysD fa fn K) (o : ownB K = true) : XD P w K mg base "NotBack" (He.ga K "NotBack") .ae "given" := by
  obtain ⟨fd, F⟩ := c.def_ 26 (d := dI "NotBack" "NotBack.__init__" (iniS 22)) rfl
  obtain ⟨h1, h2, h3, h4⟩ := own_at o 18 (x := "NotBack") (b := .ae) (f := some "given") rfl
  exact xd_given F h1 (He.glo_ok X G (c.fact 26 (f := .glo "NotBack") rfl)) (h2 _ rfl) h3 h4
theorem d_NotReady (X : K.In h) (G : h.Ns mainGlobals mg) (c : He.SaysD fa fn K) (o : ownB K = true) : XD P w K mg base "NotReady" (He.ga K "NotReady") .ae "given" := by
  obtain ⟨fd, F⟩ := c.def_ 27 (d := dI "NotReady" "NotReady.__init__" (iniS 23)) rfl
  obtain ⟨h1, h2, h3, h4⟩ := own_at o 19 (x := "NotReady") (b := .ae) (f := some "given") rfl
  exact xd_given F h1 (He.glo_ok X G (c.fact 27 (f := .glo "NotReady") rfl)) (h2 _ rfl) h3 h4
theorem d_Broken (X : K.In h) (G : h.Ns mainGlobals mg) (c : He.SaysD fa fn K) (o : ownB K = true) : XD P w K mg base "Broken" (He.ga K "Broken") .ae "index" := by
  obtain ⟨fd, F⟩ := c.def_ 28 (d := dI "Broken" "Broken.__init__" (iniS 24)) rfl
  obtain ⟨h1, h2, h3, h4⟩ := own_at o 20 (x := "Broken") (b := .ae) (f := some "index") rfl
  exact xd_index F h1 (He.glo_ok X G (c.fact 28 (f := .glo "Broken") rfl)) (h2 _ rfl) h3 h4
theorem d_InUse (X : K.In h) (G : h.Ns mainGlobals mg) (c : He.SaysD fa fn K) (o : ownB K = true) : XD P w K mg base "InUse" (He.ga K "InUse") .ae "index" := by
  obtain ⟨fd, F⟩ := c.def_ 29 (d := dI "InUse" "InUse.__init__" (iniS 25)) rfl
  obtain ⟨h1, h2, h3, h4⟩ := own_at o 21 (x := "InUse") (b := .ae) (f := some "index") rfl
  exact xd_index F h1 (He.glo_ok X G (c.fact 29 (f := .glo "InUse") rfl)) (h2 _ rfl) h3 h4
theorem d_NothingToUndo (X : K.In h) (G : h.Ns mainGlobals mg) (c : He.SaysD fa fn K) (o : ownB K = true) : XE0 P w K mg base "NothingToUndo" (He.ga K "NothingToUndo") .ae := by
  obtain ⟨fd, F⟩ := c.def_ 30 (d := dI "NothingToUndo" "NoAnswer.__init__" (iniS 20)) rfl
  obtain ⟨h1, h2, h3, h4⟩ := own_at o 22 (x := "NothingToUndo") (b := .ae) (f := none) rfl
  exact xe_pass F h1 (He.glo_ok X G (c.fact 30 (f := .glo "NothingToUndo") rfl)) h3 h4
theorem d_WrongValue (X : K.In h) (G : h.Ns mainGlobals mg) (c : He.SaysD fa fn K) (o : ownB K = true) : XE0 P w K mg base "WrongValue" (He.ga K "WrongValue") .ve := by
  obtain ⟨fd, F⟩ := c.def_ 31 (d := dI "WrongValue" "WrongValue.__init__" (iniS 1)) rfl
  obtain ⟨h1, h2, h3, h4⟩ := own_at o 23 (x := "WrongValue") (b := .ve) (f := none) rfl
  exact xe_pass F h1 (He.glo_ok X G (c.fact 31 (f := .glo "WrongValue") rfl)) h3 h4
theorem d_WrongName (X : K.In h) (G : h.Ns mainGlobals mg) (c : He.SaysD fa fn K) (o : ownB K = true) : XE0 P w K mg base "WrongName" (He.ga K "WrongName") .le := by
  obtain ⟨fd, F⟩ := c.def_ 32 (d := dI "WrongName" "WrongName.__init__" (iniS 17)) rfl
  obtain ⟨h1, h2, h3, h4⟩ := own_at o 24 (x := "WrongName") (b := .le) (f := none) rfl
  exact xe_pass F h1 (He.glo_ok X G (c.fact 32 (f := .glo "WrongName") rfl)) h3 h4
theorem d_NoAnswer (X : K.In h) (G : h.Ns mainGlobals mg) (c : He.SaysD fa fn K) (o : ownB K = true) : XE0 P w K mg base "NoAnswer" (He.ga K "NoAnswer") .ae := by
  obtain ⟨fd, F⟩ := c.def_ 33 (d := dI "NoAnswer" "NoAnswer.__init__" (iniS 20)) rfl
  obtain ⟨h1, h2, h3, h4⟩ := own_at o 25 (x := "NoAnswer") (b := .ae) (f := none) rfl
  exact xe_pass F h1 (He.glo_ok X G (c.fact 33 (f := .glo "NoAnswer") rfl)) h3 h4
end
end K01
end
section
set_option Elab.async false
set_option linter.all false
set_option maxRecDepth 100000
set_option maxHeartbeats 0
namespace K01
open PySem PySem.Spec PyProof.Rows L2 XV RP GL
open C8 (Cal pe_c pe_gc)
abbrev R : PySem.W.OpenRow := PySem.W.OpenLaw.row PySem.Challenge.rw_pairsums_k01_limits_and_errors
def nm0 : List Str := ["WrongValue", "InvalidText", "InvalidName", "InvalidKind", "InvalidWish", "InvalidIndex", "InvalidNumber", "InvalidLine", "NotATable", "InvalidColumns", "InvalidValues", "InvalidCells", "InvalidLost", "InvalidNames", "InvalidRounds"]
def nm1 : List Str := ["InvalidDeeds", "WrongName", "UnknownName", "NotLost", "NoAnswer", "NotRight", "NotBack", "NotReady", "Broken", "InUse", "NothingToUndo", "_law_dip", "_law_one_of", "_law_jar", "_law_sorts"]
def nm2 : List Str := ["_law_given_errors", "_law_index_errors", "_law_right", "MOST_COLUMNS", "MOST_SUMS", "MOST_DATA", "MOST_DIAL", "MOST_BITS", "MOST_VALUE", "MOST_SUM", "MOST_PLACES"]
def names : List Str := nm0 ++ nm1 ++ nm2
theorem run (w : World) : HandSHeadRun.RunEq R (PySem.W.view R.prog [43]) hk ob 60000 names w := by
  intro os
  kernel_rfl
end K01
end
section
set_option Elab.async false
set_option linter.all false
set_option maxRecDepth 100000
set_option maxHeartbeats 0
namespace K01
open PySem PySem.Spec PyProof.Rows L2 XV RP GL
open C8 (Cal pe_c pe_gc)
section
variable {P : Program} {w : World} {K : PySem.W.Frag} {mg : Str → Option Value} {base h : Heap}
theorem tx_of (X : K.In h) (G : h.Ns mainGlobals mg) (c : He.SaysD fa fn K) (o : ownB K = true) (P : Program) (w : World) (base : Heap) : Tx P w K mg base where
  n_len := He.free_ok X G (c.fact 34 (f := .free "len") rfl)
  n_int := He.free_ok X G (c.fact 35 (f := .free "int") rfl)
  n_abs := He.free_ok X G (c.fact 36 (f := .free "abs") rfl)
  n_divmod := He.free_ok X G (c.fact 37 (f := .free "divmod") rfl)
  n_isinstance := He.free_ok X G (c.fact 38 (f := .free "isinstance") rfl)
  n_repr := He.free_ok X G (c.fact 39 (f := .free "repr") rfl)
  n_range := He.free_ok X G (c.fact 40 (f := .free "range") rfl)
  n_enumerate := He.free_ok X G (c.fact 41 (f := .free "enumerate") rfl)
  n_all := He.free_ok X G (c.fact 42 (f := .free "all") rfl)
  n_min := He.free_ok X G (c.fact 43 (f := .free "min") rfl)
  n_max := He.free_ok X G (c.fact 44 (f := .free "max") rfl)
  n_ValueError := He.free_ok X G (c.fact 45 (f := .free "ValueError") rfl)
  n_LookupError := He.free_ok X G (c.fact 46 (f := .free "LookupError") rfl)
  n_ArithmeticError := He.free_ok X G (c.fact 47 (f := .free "ArithmeticError") rfl)
  c_InvalidText := ⟨_, He.glo_ok X G (c.fact 8 (f := .glo "InvalidText") rfl), rfl⟩
  c_InvalidName := ⟨_, He.glo_ok X G (c.fact 9 (f := .glo "InvalidName") rfl), rfl⟩
  c_InvalidKind := ⟨_, He.glo_ok X G (c.fact 10 (f := .glo "InvalidKind") rfl), rfl⟩
  c_InvalidWish := ⟨_, He.glo_ok X G (c.fact 11 (f := .glo "InvalidWish") rfl), rfl⟩
  c_InvalidIndex := ⟨_, He.glo_ok X G (c.fact 12 (f := .glo "InvalidIndex") rfl), rfl⟩
  c_InvalidNumber := ⟨_, He.glo_ok X G (c.fact 13 (f := .glo "InvalidNumber") rfl), rfl⟩
  c_InvalidLine := ⟨_, He.glo_ok X G (c.fact 14 (f := .glo "InvalidLine") rfl), rfl⟩
  c_NotATable := ⟨_, He.glo_ok X G (c.fact 15 (f := .glo "NotATable") rfl), rfl⟩
  c_InvalidColumns := ⟨_, He.glo_ok X G (c.fact 16 (f := .glo "InvalidColumns") rfl), rfl⟩
  c_InvalidValues := ⟨_, He.glo_ok X G (c.fact 17 (f := .glo "InvalidValues") rfl), rfl⟩
  c_InvalidCells := ⟨_, He.glo_ok X G (c.fact 18 (f := .glo "InvalidCells") rfl), rfl⟩
  c_InvalidLost := ⟨_, He.glo_ok X G (c.fact 19 (f := .glo "InvalidLost") rfl), rfl⟩
  c_InvalidNames := ⟨_, He.glo_ok X G (c.fact 20 (f := .glo "InvalidNames") rfl), rfl⟩
  c_InvalidRounds := ⟨_, He.glo_ok X G (c.fact 21 (f := .glo "InvalidRounds") rfl), rfl⟩
  c_InvalidDeeds := ⟨_, He.glo_ok X G (c.fact 22 (f := .glo "InvalidDeeds") rfl), rfl⟩
  c_UnknownName := ⟨_, He.glo_ok X G (c.fact 23 (f := .glo "UnknownName") rfl), rfl⟩
  c_NotLost := ⟨_, He.glo_ok X G (c.fact 24 (f := .glo "NotLost") rfl), rfl⟩
  c_NotRight := ⟨_, He.glo_ok X G (c.fact 25 (f := .glo "NotRight") rfl), rfl⟩
  c_NotBack := ⟨_, He.glo_ok X G (c.fact 26 (f := .glo "NotBack") rfl), rfl⟩
  c_NotReady := ⟨_, He.glo_ok X G (c.fact 27 (f := .glo "NotReady") rfl), rfl⟩
  c_Broken := ⟨_, He.glo_ok X G (c.fact 28 (f := .glo "Broken") rfl), rfl⟩
  c_InUse := ⟨_, He.glo_ok X G (c.fact 29 (f := .glo "InUse") rfl), rfl⟩
  c_NothingToUndo := ⟨_, He.glo_ok X G (c.fact 30 (f := .glo "NothingToUndo") rfl), rfl⟩
  c_WrongValue := ⟨_, He.glo_ok X G (c.fact 31 (f := .glo "WrongValue") rfl), rfl⟩
  c_WrongName := ⟨_, He.glo_ok X G (c.fact 32 (f := .glo "WrongName") rfl), rfl⟩
  c_NoAnswer := ⟨_, He.glo_ok X G (c.fact 33 (f := .glo "NoAnswer") rfl), rfl⟩
  d_InvalidText := d_InvalidText X G c o
  d_InvalidName := d_InvalidName X G c o
  d_InvalidKind := d_InvalidKind X G c o
  d_InvalidWish := d_InvalidWish X G c o
  d_InvalidIndex := d_InvalidIndex X G c o
  d_InvalidNumber := d_InvalidNumber X G c o
  d_InvalidLine := d_InvalidLine X G c o
  d_NotATable := d_NotATable X G c o
  d_InvalidColumns := d_InvalidColumns X G c o
  d_InvalidValues := d_InvalidValues X G c o
  d_InvalidCells := d_InvalidCells X G c o
  d_InvalidLost := d_InvalidLost X G c o
  d_InvalidNames := d_InvalidNames X G c o
  d_InvalidRounds := d_InvalidRounds X G c o
  d_InvalidDeeds := d_InvalidDeeds X G c o
  d_UnknownName := d_UnknownName X G c o
  d_NotLost := d_NotLost X G c o
  d_NotRight := d_NotRight X G c o
  d_NotBack := d_NotBack X G c o
  d_NotReady := d_NotReady X G c o
  d_Broken := d_Broken X G c o
  d_InUse := d_InUse X G c o
  d_NothingToUndo := d_NothingToUndo X G c o
  d_WrongValue := d_WrongValue X G c o
  d_WrongName := d_WrongName X G c o
  d_NoAnswer := d_NoAnswer X G c o
theorem tm_of (X : K.In h) (G : h.Ns mainGlobals mg) (c : He.SaysD fa fn K) : Tm mg where
  c_MOST_COLUMNS := let ⟨t, e⟩ := He.int_ok X G (c.fact 48 (f := .int "MOST_COLUMNS" 8) rfl); ⟨_, e, ⟨t, rfl⟩⟩
  c_MOST_SUMS := let ⟨t, e⟩ := He.int_ok X G (c.fact 49 (f := .int "MOST_SUMS" 10) rfl); ⟨_, e, ⟨t, rfl⟩⟩
  c_MOST_DATA := let ⟨t, e⟩ := He.int_ok X G (c.fact 50 (f := .int "MOST_DATA" 24) rfl); ⟨_, e, ⟨t, rfl⟩⟩
  c_MOST_DIAL := let ⟨t, e⟩ := He.int_ok X G (c.fact 51 (f := .int "MOST_DIAL" 1000000000) rfl); ⟨_, e, ⟨t, rfl⟩⟩
  c_MOST_BITS := let ⟨t, e⟩ := He.int_ok X G (c.fact 52 (f := .int "MOST_BITS" 60) rfl); ⟨_, e, ⟨t, rfl⟩⟩
  c_MOST_VALUE := let ⟨t, e⟩ := He.int_ok X G (c.fact 53 (f := .int "MOST_VALUE" 1000000000000000000000000000000) rfl); ⟨_, e, ⟨t, rfl⟩⟩
  c_MOST_SUM := let ⟨t, e⟩ := He.int_ok X G (c.fact 54 (f := .int "MOST_SUM" 100000000000000000000000000000000) rfl); ⟨_, e, ⟨t, rfl⟩⟩
  c_MOST_PLACES := let ⟨t, e⟩ := He.int_ok X G (c.fact 55 (f := .int "MOST_PLACES" 14) rfl); ⟨_, e, ⟨t, rfl⟩⟩
theorem cal_of {x : Str} {params : Arguments} {body : List Stmt} {scope : Scope} {k : Nat} {ps : List Str} {sp : Sp} {f : Addr} {fd : FuncData} (j : Nat) (F : FunD K x x params body scope [] [] f fd) (O : FnOk P w K mg base CX0 k f fd ps sp) (hg : mg x = some (.ref f)) (hk : k ≤ j)
    (hb : ∀ (kV doc pm : Value) (an : Option Addr) (cdv ct : Value) (us : List Value), us.length = ps.length → bindArgs (PySem.W.fnOf x x params body scope .none kV doc pm an cdv ct) ⟨us, []⟩ = pure (ps.zip us)) : Cal P w K mg base j x sp [] :=
  ⟨f, fd, ps, [], O.mono hk, hg, F.kp, F.bindsN hb, .nil⟩
theorem facts (X : K.In h) (G : h.Ns mainGlobals mg) {f : Addr} (hfa : mg ("law" : Str) = some (.ref f)) (c : He.SaysD fa fn K) (o : ownB K = true) :
    ∃ fd : FuncData, (∀ (s : Shared) (v : Value), BindsTo s fd ⟨[v], []⟩ [("_law_cells", v)]) ∧ ∀ base : Heap, K.In base → base.Ns mainGlobals mg → FnG P w K mg base CX0 6 f fd ["_law_cells"] (spLaw K) := by
  obtain ⟨fd0, F0⟩ := c.def_ 0 (d := dG "_law_dip" (top 36)) rfl
  have g0 := He.glo_ok X G (c.fact 0 (f := .glo "_law_dip") rfl)
  obtain ⟨fd1, F1⟩ := c.def_ 1 (d := dG "_law_one_of" (top 37)) rfl
  have g1 := He.glo_ok X G (c.fact 1 (f := .glo "_law_one_of") rfl)
  obtain ⟨fd2, F2⟩ := c.def_ 2 (d := dG "_law_jar" (top 38)) rfl
  have g2 := He.glo_ok X G (c.fact 2 (f := .glo "_law_jar") rfl)
  obtain ⟨fd3, F3⟩ := c.def_ 3 (d := dG "_law_sorts" (top 39)) rfl
  have g3 := He.glo_ok X G (c.fact 3 (f := .glo "_law_sorts") rfl)
  obtain ⟨fd4, F4⟩ := c.def_ 4 (d := dG "_law_given_errors" (top 40)) rfl
  have g4 := He.glo_ok X G (c.fact 4 (f := .glo "_law_given_errors") rfl)
  obtain ⟨fd5, F5⟩ := c.def_ 5 (d := dG "_law_index_errors" (top 41)) rfl
  have g5 := He.glo_ok X G (c.fact 5 (f := .glo "_law_index_errors") rfl)
  obtain ⟨fd6, F6⟩ := c.def_ 6 (d := dG "_law_right" (top 42)) rfl
  have g6 := He.glo_ok X G (c.fact 6 (f := .glo "_law_right") rfl)
  obtain ⟨fd7, F7⟩ := c.def_ 7 (d := dG "law" (top 43)) rfl
  have g7 := He.glo_ok X G (c.fact 7 (f := .glo "law") rfl)
  have e := hfa.symm.trans g7
  cases e
  have Z : Kits K := kits_of (two o).2
  have b7 := FunD.bindsA (ps := ["_law_cells"]) F7 fun _ _ _ _ _ _ us hl => match us, hl with | [_], _ => rfl
  refine ⟨fd7, fun s v => b7 s [v] rfl, fun base _ _ => ?_⟩
  have T := tx_of X G c o P w base
  have M := tm_of X G c
  have C0 : Cal P w K mg base 1 "_law_dip" spDip [] := cal_of 1 F0 (ok_dip F0 T) g0 (by decide) fun _ _ _ _ _ _ us hl => match us, hl with | [_, _], _ => rfl
  have C1 : Cal P w K mg base 3 "_law_one_of" spOne [] := cal_of 3 F1 (ok_one F1 T C0) g1 (by decide) fun _ _ _ _ _ _ us hl => match us, hl with | [_, _], _ => rfl
  have C2 : Cal P w K mg base 5 "_law_jar" (spJar K) [] := cal_of 5 F2 (ok_jar F2 T) g2 (by decide) fun _ _ _ _ _ _ us hl => match us, hl with | [_, _], _ => rfl
  have C3 : Cal P w K mg base 3 "_law_sorts" (spSorts K) [] := cal_of 3 F3 (ok_sorts F3 T) g3 (by decide) fun _ _ _ _ _ _ us hl => match us, hl with | [_], _ => rfl
  have C3' : Cal P w K mg base 5 "_law_sorts" (spSorts K) [] := cal_of 5 F3 (ok_sorts F3 T) g3 (by decide) fun _ _ _ _ _ _ us hl => match us, hl with | [_], _ => rfl
  have C4 : Cal P w K mg base 3 "_law_given_errors" (spErr "given" (givenCs K)) [] := cal_of 3 F4 (ok_giv F4 T) g4 (by decide) fun _ _ _ _ _ _ us hl => match us, hl with | [_], _ => rfl
  have C5 : Cal P w K mg base 3 "_law_index_errors" (spErr "index" (indexCs K)) [] := cal_of 3 F5 (ok_idx F5 T) g5 (by decide) fun _ _ _ _ _ _ us hl => match us, hl with | [_], _ => rfl
  have C6 : CalG P w K mg base 5 "_law_right" spRight := ⟨_, _, ["_law_jar_here"], (ok_right F6 T Z C1 C3 C4 C5).up (by decide), g6, F6.kp, F6.bindsN fun _ _ _ _ _ _ us hl => match us, hl with | [_], _ => rfl⟩
  exact ok_law F7 T M Z C3' C2 C6
end
end K01
end
set_option Elab.async false
set_option linter.all false
set_option maxRecDepth 100000
set_option maxHeartbeats 0
open PySem PySem.W PySem.Calls PyProof.Rows
theorem PySem.Challenge.cw_pairsums_k01_limits_and_errors_holds : PySem.Challenge.rw_pairsums_k01_limits_and_errors.Holds := by
  w_on; o_law
  refine HandSHeadRun.head_any (r := OpenLaw.row PySem.Challenge.rw_pairsums_k01_limits_and_errors) (q := view (OpenLaw.row PySem.Challenge.rw_pairsums_k01_limits_and_errors).prog [43]) (H := K01.hk) (ob := K01.ob) (M := 60000) (loose := K01.names) (d := HandSHeadRun.topDef (OpenLaw.row PySem.Challenge.rw_pairsums_k01_limits_and_errors).prog 43) (kwd := []) K01.ob_eq
    (by kernel_rfl) (fun s => by kernel_rfl) K01.run (by kernel_rfl) (by kernel_rfl) (by kernel_rfl) (by rfl) (by first | assumption | decide +kernel) (by decide +kernel) ⟨rfl, rfl, rfl, rfl, rfl, by decide +kernel⟩ ?hw ?hc
  case hw => w_witness2
  case hc =>
    refine GL.walk (l := PySem.Challenge.rw_pairsums_k01_limits_and_errors) (n := 63) (k := 6) (x := "_law_cells") (CX := L2.CX0) rfl (by decide) (by kernel_rfl) ⟨rfl, by decide, by decide⟩ ?F (fun _ _ _ _ z => z)
    intro w mg fa h Y G hmg0
    obtain ⟨K, KX, c, o⟩ := Y
    have hmg : mg ("law" : PySem.Str) = some (.ref fa) := by
      have e : (HandSHeadRun.topDef (OpenLaw.row PySem.Challenge.rw_pairsums_k01_limits_and_errors).prog 43).name = ("law" : PySem.Str) := by kernel_rfl
      rw [← e]
      exact hmg0
    obtain ⟨fd, hb, hF⟩ := K01.facts (P := (PySem.Challenge.rw_pairsums_k01_limits_and_errors).prog) (w := w) KX G hmg c o
    exact ⟨K, fd, K01.spLaw K, KX, hb, fun H a ns hl _ hS => ⟨a, ns, rfl, hS, hl, fun _ => rfl⟩, hF⟩
