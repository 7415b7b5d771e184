import PyProof.Rows.All
import Wide.All
import OpenK.AllK
import Wide.FinOn
import HandS.Base
import HandS.Call
import HandS.List
import HandS.Ends
import HandS.Wide
import HandS.Iter
import HandS.Conv
import HandS.ForMost
import HandS.ForExc
import HandS.SortInts
import HandS.SortKw
import HandS.SetFor
import HandS.Style
import HandS.Codes
import HandS.Strs
import HandS.Walk
import HandS.IsInst
import HandS.NoneIn
import HandS.Deep
import HandS.More
import HandS.GenBody
import HandS.GenYield
import HandS.GenCall
import HandS.GenList
import KE.KDictZip
import KE.GoesEnumKw
import HandS.Star
import HandS.Gcd
import KE.KRevSl
import HandS.RaiseMore
import HandS.WideMore
import HandS.WideBits
import KE.SortData
import PySem.Challenge.RW_sortstretches_k34_whole_many_unchanged_r
set_option maxHeartbeats 20000000
set_option Elab.async false
set_option linter.all false
set_option maxRecDepth 100000
namespace Xk
open PySem PySem.Spec PyProof.Rows L2

/-- a def's promise where no list is being written out around the call -/
structure FnG (P : Program) (w : World) (K : PySem.W.Frag) (mg : Str → Option Value) (B : Heap) (CX : CXT) (n : Nat) (g : Addr) (fd : FuncData) (ps : List Str) (sp : Sp) : Prop where
  cnt : ∀ vs H Q E, sp vs H Q E → vs.length = ps.length
  go : ∀ (A : Around) (ou : List Env) (t : Shared) (H : Hp) (ar : Args) (us : List Value) (vs : List V) (Q : VK) (E : XK),
    A.guards = some [] → Room n A → Env0 P w K mg B A ou t H → BindsTo t fd ar (ps.zip us) → Vals vs us → sp vs H Q E →
      codeAny (model P w) A (.call (.ref g) ar) (CR CX ou P w H t Q E) t

theorem FnG.of {P : Program} {w : World} {K : PySem.W.Frag} {mg : Str → Option Value} {B : Heap} {CX : CXT} {n : Nat} {g : Addr} {fd : FuncData} {ps : List Str} {sp : Sp}
    (F : FnOk P w K mg B CX n g fd ps sp) : FnG P w K mg B CX n g fd ps sp :=
  ⟨F.len, fun A ou t H ar us vs Q E _ room env bi rv hs => F.run A ou t H ar us vs Q E room env bi rv hs⟩

section
variable {X : Cx} {CX : CXT} {n : Nat} {g : Addr} {fd : FuncData} {ps ks : List Str} {sp : Sp} {dvs : List V} {ds : List Value} {E : XK} {x : Str} {p pos : Pos} {e : Expr} {es : List Expr} {kws : List Keyword} {t tk : TA}

theorem endG {pins : List (Addr × Obj)} {σ : L2.St} {H : Hp} {s s' : Shared} {Q : VK} {r : Result} (pas : Passes CX X E) (I : Inv X pins σ H s)
    (z : CR CX X.stack X.prog X.w H s Q E r s') :
    (match r with | .ok (.ret u) => EP X pins σ Q u s' | .ok _ => False | .error er => X.xe er s') := by
  match r, z with
  | .error er, z => exact pas pins σ H s er s' I z
  | .ok (.ret u), z => exact I.after z
  | .ok .next, z => exact z.elim
  | .ok .brk, z => exact z.elim
  | .ok .cont, z => exact z.elim

theorem goG {pins : List (Addr × Obj)} {σ : L2.St} {H : Hp} {s : Shared} {Q : VK} {us : List Value} {vs : List V} (F : FnG X.prog X.w X.K X.mg X.base CX n g fd ps sp)
    (hG : X.A.guards = some []) (room : Room n X.A) (bi : Binds X.K fd ps ds) (dv : Vals dvs ds) (pas : Passes CX X E) (I : Inv X pins σ H s) (rv : Vals vs us) (z : sp (vs ++ dvs) H Q E) :
    wpAny (model X.prog X.w) X.A (PySem.call (.ref g) us) (EP X pins σ Q) X.xe s := by
  have rv2 := rv.append dv
  have hlen : (us ++ ds).length = ps.length := rv2.length ▸ F.cnt _ _ _ _ z
  exact wpAny_call (codeAny_mono (F.go X.A X.stack s H ⟨us, []⟩ _ _ Q E hG room I.env0 (bi s us I.kIn hlen) rv2 z) fun r s' y => by
    have := endG pas I y
    revert this
    cases r with
    | error _ => exact id
    | ok fl => cases fl <;> exact id)

theorem pe_callG (F : FnG X.prog X.w X.K X.mg X.base CX n g fd ps sp) (hG : X.A.guards = some []) (room : Room n X.A) (gx : Gl X x) (at' : X.mg x = some (.ref g)) (kp : PySem.W.keepIn X.K (.ref g) = true)
    (bi : Binds X.K fd ps ds) (dv : Vals dvs ds) (pas : Passes CX X E) (ha : PA X (e :: es) t) (hdb : (x == ("__debug__" : Str)) = false := by decide)
    (he : starEach (e :: es) X.env = (false, eval e X.env) :: starEach es X.env := by rfl) (hpl : (backTo pos (starEach es X.env)).any (·.1) = false := by rfl) : PE X (.Call (.Name x p) (e :: es) [] pos) (tCall sp dvs E t) :=
  ⟨fun pins s σ H Q I z => wpAny_Call_Name_kw (ld_glob I gx at'
    (PySem.W.callWith_K (h₀ := X.base) I.ok.mod.kin kp (thn (ha.run pos pins s σ H _ I z) fun us s1 ⟨vs, H1, I1, r, q⟩ => ⟨I1.kIn, goG F hG room bi dv pas I1 r q⟩) he hpl) hdb)⟩

variable {ff : List Value → List Value → List Value} {fV : List V → List V → List V}
theorem goGK {pins : List (Addr × Obj)} {σ : L2.St} {H : Hp} {s : Shared} {Q : VK} {us ws : List Value} {vs zs : List V} (F : FnG X.prog X.w X.K X.mg X.base CX n g fd ps sp)
    (hG : X.A.guards = some []) (room : Room n X.A) (bi : KBinds X.K fd ps ks ff fV) (pas : Passes CX X E) (I : Inv X pins σ H s) (rv : Vals vs us) (rw' : Vals zs ws) (z : sp (fV vs zs) H Q E) :
    wpAny (model X.prog X.w) X.A (PySem.call (.ref g) us (ks.zip ws)) (EP X pins σ Q) X.xe s := by
  have rv2 := bi.rel rv rw'
  have hlen : (ff us ws).length = ps.length := rv2.length ▸ F.cnt _ _ _ _ z
  exact wpAny_call (codeAny_mono (F.go X.A X.stack s H ⟨us, ks.zip ws⟩ _ _ Q E hG room I.env0 (bi.to s us ws I.kIn hlen) rv2 z) fun r s' y => by
    have := endG pas I y
    revert this
    cases r with
    | error _ => exact id
    | ok fl => cases fl <;> exact id)

/-- f(e, .., k = v, ..) -/
theorem pe_callKG (F : FnG X.prog X.w X.K X.mg X.base CX n g fd ps sp) (hG : X.A.guards = some []) (room : Room n X.A) (gx : Gl X x) (at' : X.mg x = some (.ref g)) (kp : PySem.W.keepIn X.K (.ref g) = true)
    (bi : KBinds X.K fd ps ks ff fV) (pas : Passes CX X E) (ha : PA X (e :: es) t) (hkw : PK X kws tk) (hdb : (x == ("__debug__" : Str)) = false := by decide)
    (all' : (backToKw pos (keywordEach kws X.env)).all (·.1.isSome) = true := by rfl) (nms : (backToKw pos (keywordEach kws X.env)).filterMap (·.1) = ks := by rfl)
    (he : starEach (e :: es) X.env = (false, eval e X.env) :: starEach es X.env := by rfl)
    (hpl : ((backTo pos (starEach (e :: es) X.env)).any (·.1) || (backToKw pos (keywordEach kws X.env)).any (·.1.isNone)) = false := by rfl) :
    PE X (.Call (.Name x p) (e :: es) kws pos) (tCallK sp fV E t tk) := by
  subst nms
  exact ⟨fun pins s σ H Q I z => wpAny_Call_Name_kw (ld_glob I gx at'
    (PySem.W.callWith_KW (h₀ := X.base) I.ok.mod.kin kp all' (thn (ha.run pos pins s σ H _ I z) fun us s1 ⟨vs, H1, I1, r, q⟩ =>
      thn (hkw.run pos pins s1 σ H1 _ I1 q) fun ws s2 ⟨zs, H2, I2, rz, q2⟩ => ⟨I2.kIn, goGK F hG room bi pas I2 r rz q2⟩) hpl he) hdb)⟩
/-- f(k = v, ..) -/
theorem pe_callKG0 (F : FnG X.prog X.w X.K X.mg X.base CX n g fd ps sp) (hG : X.A.guards = some []) (room : Room n X.A) (gx : Gl X x) (at' : X.mg x = some (.ref g)) (kp : PySem.W.keepIn X.K (.ref g) = true)
    (bi : KBinds X.K fd ps ks ff fV) (pas : Passes CX X E) (hkw : PK X kws tk) (hdb : (x == ("__debug__" : Str)) = false := by decide)
    (all' : (backToKw pos (keywordEach kws X.env)).all (·.1.isSome) = true := by rfl) (nms : (backToKw pos (keywordEach kws X.env)).filterMap (·.1) = ks := by rfl)
    (hpl : ((backTo pos (starEach [] X.env)).any (·.1) || (backToKw pos (keywordEach kws X.env)).any (·.1.isNone)) = false := by rfl) :
    PE X (.Call (.Name x p) [] kws pos) (tCallK sp fV E tNil tk) := by
  subst nms
  exact ⟨fun pins s σ H Q I z => wpAny_Call_Name_kw (ld_glob I gx at'
    (PySem.W.callWith_KW0 (h₀ := X.base) I.ok.mod.kin kp all' (thn (hkw.run pos pins s σ H _ I z) fun ws s2 ⟨zs, H2, I2, rz, q2⟩ => ⟨I2.kIn, goGK F hG room bi pas I2 .nil rz q2⟩) hpl) hdb)⟩
end

/-- a def of the text by its body, the guards known -/
theorem fnG_of {P : Program} {w : World} {K : PySem.W.Frag} {mg : Str → Option Value} {B : Heap} {CX : CXT} {n : Nat} {g : Addr} {nm qual : Str} {pars : Arguments} {bd : List Stmt} {sc : Scope} {dV kV doc pm cdv ct oc : Value} {an od : Option Addr}
    {osl : Array (Option Value)} {N ps : List Str} {sp : Sp} (lk : K.lookup g = some ⟨oc, od, .func (PySem.W.fnOf nm qual pars bd sc dV kV doc pm an cdv ct), osl⟩) (hcd : PySem.W.codeIn K cdv qual = true) (S : FnScope N ps sc)
    (cnt : ∀ vs H Q E, sp vs H Q E → vs.length = ps.length)
    (body : ∀ (A : Around) (ou : List Env) (t : Shared) (H : Hp) (vs : List V) (Q : VK) (E : XK), A.guards = some [] → Room n (A.deeper (envOfC qual sc t.heap.objs.size g cdv)) → sp vs H Q E →
      ∃ r, PSs (cxOf CX P w K mg B N qual sc g cdv A ou t H E) bd r ∧ r { nx := fun _ H' => Q .non H', rt := Q } (L2.start N vs) H) :
    FnG P w K mg B CX (n + 1) g (PySem.W.fnOf nm qual pars bd sc dV kV doc pm an cdv ct) ps sp where
  cnt := cnt
  go A ou t H ar us vs Q E hG room env bi rv z := by
    have kin := env.mod.kin.keeps fun b o e => (env.bs b o e).1
    have lim := env.mod.nolimit.keeps fun b o e => (env.bs b o e).1
    have kinds : ∀ y ∈ ps.zip us, sc.names.lookup y.1 = some .local ∨ (sc.names.lookup y.1 = some .cell ∧ ((cellsFrom (t.heap.objs.size + 1) sc.names []).lookup y.1).isSome = true) := fun y hy =>
      (S.par y.1 (List.of_mem_zip (a := y.1) (b := y.2) hy).1).imp id fun q => ⟨q, PySem.W.cellsFrom_some _ _ _ (.inl q)⟩
    refine codeAny_call_function room.depth (kin _ _ lk) rfl S.co S.gen rfl (PySem.W.codeRec_of kin hcd) (bi _ _ _ _ (wpAny_newFunctionEnv_cells S.kind kinds fun env' he t1 x => ?_))
    subst he
    obtain ⟨r, hr, hq⟩ := body A ou t H vs Q E hG (room.deeper _) z
    refine ⟨lim.keeps x.toInCall.keep, codeAny_func (wpAny_mono (hr.run [] t1 (L2.start N vs) H _ (inv_start S room.hd env (cnt _ _ _ _ z) rv x) hq) (fun fl t' y => ?_) fun e t' y => y)⟩
    match fl, y with
    | .ret u, ⟨v, σ', H', J, ru, q⟩ => exact ⟨v, H', J.os, J.bare, J.base, J.hok, ru, q⟩
    | .next, ⟨σ', H', J, q⟩ => exact ⟨V.non, H', J.os, J.bare, J.base, J.hok, rfl, q⟩
    | .brk, ⟨_, _, _, q⟩ => exact q.elim
    | .cont, ⟨_, _, _, q⟩ => exact q.elim

/-- the law's call at the claim's caller, over an abstract heap that tracks the script at most -/
theorem lawG0 {P : Program} {w : World} {K : PySem.W.Frag} {mg mb : Str → Option Value} {CX : CXT} {n : Nat} {fa a : Addr} {fd : FuncData} {x : Str} {sp : Sp} {t : Shared} {vs : List Value} {H : Hp}
    (kin : K.In t.heap) (hm : t.heap.Ns mainGlobals mg) (hb : t.heap.Ns builtinsNs mb) (hbb : ∀ y : Str, y ≠ "__name__" → mb y = bootBuiltins y) (lim : t.heap.NoLimit) (gens : t.gens = #[])
    (ha : t.heap.get? a = some { cls := .type "list", data := .seq vs.toArray }) (room : Room n callerA)
    (F : ∀ B : Heap, K.In B → B.Ns mainGlobals mg → FnG P w K mg B CX n fa fd [x] sp) (bi : ∀ (s : Shared) (u : Value), BindsTo s fd ⟨[u], []⟩ [(x, u)])
    (z : sp [.ref a] H (fun v _ => v = .bl true) fun _ _ _ => False) (noX : ∀ H e s', CX [] H t (fun _ _ _ => False) e s' → False)
    (only : Only H) (hok : HOk P w H t.heap) (hA : ∀ b, H b ≠ none → b = a) (hK : H a ≠ none → K.lookup a = none) :
    codeAny (model P w) callerA (.call (.ref fa) ⟨[.ref a], []⟩) (fun r s' => r = .ok (.ret (.bool true)) ∧ OldK t.heap s'.heap ∧ s'.os = t.os ∧ AllBare s'.gens) t := by
  have free : ∀ {b : Addr}, b ≠ a → H b = none := fun {b} hne => Classical.byContradiction fun q => hne (hA b q)
  have low : ∀ {b : Addr} {o : Obj}, t.heap.get? b = some o → H b = none → (hidT t.heap H).get? b = some o := fun e q => hidT_get e q
  have dict : ∀ {b : Addr} {o : Obj} {es : Array DictEntry} {ep : Nat}, t.heap.get? b = some o → o.data = .dict es ep → H b = none := fun {b o es ep} e d => free fun q => by
    subst q
    rw [ha] at e
    cases e
    exact nomatch (show Data.seq vs.toArray _ = Data.dict es ep from d)
  have ns : ∀ {b : Addr} {m : Str → Option Value}, t.heap.Ns b m → (hidT t.heap H).Ns b m := fun ⟨o, es, ep, e, d, r⟩ => ⟨o, es, ep, low e (dict e d), d, r⟩
  have kb : K.In (hidT t.heap H) := fun b o e => low (kin b o e) (by
    by_cases q : b = a
    · subst q
      exact Classical.byContradiction fun y => by rw [hK y] at e; cases e
    · exact free q)
  obtain ⟨mc, l1, l2⟩ := lim
  have env : Env0 P w K mg (hidT t.heap H) callerA [] t H :=
    { frames := rfl, mod := ⟨kb, ns hm, ⟨mb, ns hb, hbb⟩, ⟨mc, ns l1, l2⟩⟩, bs := fun b o e => of_hidT e, bsz := Nat.le_of_eq (hidT_size _ _), funs := trivial,
      frf := fun b q => absurd (show b ∈ ([] : List Addr) from q) (by simp), hok := hok, bare := .of_eq gens }
  refine codeAny_mono ((F _ kb (ns hm)).go callerA [] t H ⟨[.ref a], []⟩ [.ref a] [.ref a] _ _ rfl room env (bi t (.ref a)) (.cons rfl .nil) z) fun r s' y => ?_
  match r, y with
  | .error e, y => exact (noX H e s' y).elim
  | .ok (.ret u), ⟨v, H', os, bare, un, hok', ru, q⟩ =>
    cases (show v = .bl true from q)
    cases (show u = Value.bool true from ru)
    refine ⟨rfl, OldK.of_keep fun b o e => ?_, os, bare⟩
    match hq : H b with
    | none => exact un.keep b o e hq (by intro q; exact absurd (show b ∈ ([] : List Addr) from q) (by simp)) (by simp)
    | some u =>
      rcases only b with q | ⟨ob, xs, q⟩
      · rw [hq] at q; cases q
      · obtain ⟨e1, _⟩ := hok b _ q
        obtain ⟨e2, _⟩ := hok' b _ (un.frzs b ob _ q)
        rw [e] at e1; cases e1
        exact e2

theorem lawG {P : Program} {w : World} {K : PySem.W.Frag} {mg mb : Str → Option Value} {CX : CXT} {n : Nat} {fa a : Addr} {fd : FuncData} {x : Str} {sp : Sp} {t : Shared} {vs : List Value} {ns : List Int}
    (kin : K.In t.heap) (hm : t.heap.Ns mainGlobals mg) (hb : t.heap.Ns builtinsNs mb) (hbb : ∀ y : Str, y ≠ "__name__" → mb y = bootBuiltins y) (lim : t.heap.NoLimit) (gens : t.gens = #[])
    (ha : t.heap.get? a = some { cls := .type "list", data := .seq vs.toArray }) (hi : IntsAre vs ns) (hl : ns.length ≤ sizeLine) (room : Room n callerA)
    (F : ∀ B : Heap, K.In B → B.Ns mainGlobals mg → FnG P w K mg B CX n fa fd [x] sp) (bi : ∀ (s : Shared) (u : Value), BindsTo s fd ⟨[u], []⟩ [(x, u)])
    (z : ∀ H : Hp, Only H → SqL K H a (ns.map V.int) → sp [.ref a] H (fun v _ => v = .bl true) fun _ _ _ => False) (noX : ∀ H e s', CX [] H t (fun _ _ _ => False) e s' → False) :
    codeAny (model P w) callerA (.call (.ref fa) ⟨[.ref a], []⟩) (fun r s' => r = .ok (.ret (.bool true)) ∧ OldK t.heap s'.heap ∧ s'.os = t.os ∧ AllBare s'.gens) t := by
  have rv := vals_ints hi
  match hk : K.lookup a with
  | some o =>
    have e := kin a o hk
    rw [ha] at e
    cases e
    have on : Only fun _ => none := fun _ => .inl rfl
    exact lawG0 kin hm hb hbb lim gens ha room F bi (z _ on (.inr ⟨_, vs.toArray, _, hk, rfl, rfl, rfl, by rw [List.size_toArray, hi.length]; exact hl, by simpa using rv⟩)) noX on
      (fun b u q => nomatch (show (none : Option HO) = some u from q)) (fun b q => absurd rfl q) fun q => absurd rfl q
  | none =>
    have at0 : ∀ {b : Addr}, b ≠ a → (if b = a then some (HO.frz { cls := .type "list", data := .seq vs.toArray } (.lst (ns.map V.int))) else none) = none := fun q => if_neg q
    have on : Only fun b => if b = a then some (HO.frz { cls := .type "list", data := .seq vs.toArray } (.lst (ns.map V.int))) else none := fun b => by
      by_cases q : b = a
      · exact .inr ⟨_, _, if_pos q⟩
      · exact .inl (if_neg q)
    refine lawG0 kin hm hb hbb lim gens ha room F bi (z _ on (.inl (.inr ⟨_, if_pos rfl⟩))) noX on (fun b u q => ?_) (fun b q => Classical.byContradiction fun y => q (if_neg y)) fun _ => hk
    by_cases y : b = a
    · subst y
      cases (if_pos rfl).symm.trans q
      exact ⟨ha, by rw [List.length_map]; exact hl, vs, _, rv, ha⟩
    · cases (at0 y).symm.trans q

/-- the goal that the head leaves, from the law's promise -/
theorem walkG {l : PySem.W.OpenLaw} {m n : Nat} {q : Program} {loose : List Str} {XP : (Str → Option Value) → Heap → Prop} {YP : World → Heap → Prop} {d : DefRec} {K : Params → PySem.W.Frag} {CX : CXT} {sp : PySem.W.Frag → Sp} {x : Str}
    (hn : l.most = some m) (hm : m ≤ sizeLine) (hdf : d.params.defaults = []) (room : Room n callerA) (hY : ∀ (w : World) (h : Heap), YP w h → (K w.params).In h)
    (F : ∀ (w : World) (mg : Str → Option Value) (fa : Addr) (h : Heap), (K w.params).In h → h.Ns mainGlobals mg → mg d.name = some (.ref fa) →
      ∃ fd : FuncData, (∀ (s : Shared) (u : Value), BindsTo s fd ⟨[u], []⟩ [(x, u)]) ∧
        ∀ B : Heap, (K w.params).In B → B.Ns mainGlobals mg → FnG l.prog w (K w.params) mg B CX n fa fd [x] (sp (K w.params)))
    (z : ∀ (K : PySem.W.Frag) (H : Hp) (a : Addr) (ns : List Int), ns.length ≤ m → Only H → SqL K H a (ns.map V.int) → sp K [.ref a] H (fun v _ => v = .bl true) fun _ _ _ => False)
    (noX : ∀ (H : Hp) (s : Shared) (e : Value) (s' : Shared), CX [] H s (fun _ _ _ => False) e s' → False) : PySem.W.WalkO q loose XP YP l.row.toRowW d [] (fun f vs => PySem.call f vs) :=
  Att.attach_call hn hdf fun w s0 s1 mg mb fa o pm cd doc a vs ns G Y ho hd hcd hmg hobj hints hlen hg =>
    have ⟨fd, hb, hF⟩ := F w mg fa _ (hY w _ Y) G.T.g hmg
    lawG (hY w _ Y) G.T.g G.T.b G.T.builtins G.T.nolimit hg hobj hints (Nat.le_trans hlen hm) room hF hb (fun H hO hS => z (K w.params) H a ns hlen hO hS) fun H e s' => noX H s1 e s'
end Xk

set_option Elab.async false
set_option linter.all false
set_option maxRecDepth 100000
namespace Xk
open PySem PySem.Spec PyProof.Rows L2

/-- ** with a whole exponent: base's bits times exponent within 2^27 -/
def CPowW (i j : Int) : Prop := 0 ≤ j ∧ (Builtin.Int.intBits i : Int) * j ≤ 2 ^ 27
section
variable {X : Cx}
theorem op_powW : OpR X (binaryOp .Pow) (rI CPowW fun i j => .int (i ^ j.toNat)) := opI fun _ _ _ _ _ _ _ hc q => pow_int hc.1 hc.2 q
end
theorem bits_le {i : Int} {n : Nat} (h : i.natAbs < 2 ^ n) : Builtin.Int.intBits i ≤ n := by
  unfold Builtin.Int.intBits
  split
  · omega
  · rename_i h0
    have h0' : i.natAbs ≠ 0 := by
      intro z
      apply h0
      simp [Int.natAbs_eq_zero.mp z]
    have := (Nat.log2_lt h0').mpr h
    omega
theorem powW {i : Int} {n : Nat} {j : Int} (h : i.natAbs < 2 ^ n) (h0 : 0 ≤ j) (hj : j ≤ 3) (hn : n ≤ 40000000) : CPowW i j := by
  refine ⟨h0, ?_⟩
  have h1 := bits_le h
  have : (Builtin.Int.intBits i : Int) * j ≤ 40000000 * 3 := by
    refine Int.mul_le_mul ?_ hj h0 (by omega)
    omega
  refine Int.le_trans this (by decide)

/-! ### xs[i] read for op= -/
section
variable {X : Cx}
theorem get_list : PGet X (rIxL X.K) := by
  intro pins s σ H o i ov iv Q I ro ri h
  obtain ⟨p, xs, k, z, rfl, rfl, hq, he, q⟩ := h
  cases ro
  obtain ⟨t, rfl⟩ := ri
  obtain ⟨its, r, pl, hz⟩ := I.list hq
  obtain ⟨j, h1, h2, h3, h4, h5⟩ := atI_get he
  obtain ⟨u, eu, ru⟩ := r.get h2
  have hl := r.length
  have hn := line63
  by_cases h0 : 0 ≤ k
  · have hj : k.toNat = j := by
      rw [seqIndex_of h0 h5] at h1
      exact Option.some.inj h1
    exact wpAny_getItem_list pl.isList h0 (by omega) (by rw [hj]; simpa using eu) ⟨z, H, I, ru, q⟩
  · have hj : (k + (its.toArray.size : Int)).toNat = j := by
      rw [seqIndex_neg (by omega) h4] at h1
      rw [List.size_toArray, ← hl]
      exact Option.some.inj h1
    exact wpAny_getItem_list_neg pl.isList (by omega) (by rw [List.size_toArray] <;> omega) (by omega) (by rw [hj]; simpa using eu) ⟨z, H, I, ru, q⟩
end

/-! ### xs[a:c] = ys -/
section
variable {X : Cx} {o : Expr} {lo hi : Option Expr} {to : TE} {tl th : TO} {p2 pos : Pos}
def gSlc (to : TE) (tl th : TO) : TG := fun v σ H Q => to σ H fun x H1 => tl σ H1 fun l H2 => th σ H2 fun u H3 =>
  ∃ (p b : Addr) (xs ys : List V) (a c : Int), x = .ref p ∧ v = .ref b ∧ l = some a ∧ u = some c ∧ H3 p = some (.lst xs) ∧ H3 b = some (.lst ys) ∧ p ≠ b ∧ 0 ≤ a ∧ a ≤ c ∧ c ≤ xs.length ∧ xs.length + ys.length ≤ sizeLine ∧
    Q σ (upd H3 p (.lst (xs.take a.toNat ++ ys ++ xs.drop c.toNat)))
theorem pg_slc (ho : PE X o to) (hl : PO X lo tl) (hu : PO X hi th) : PG X (.Subscript o (.Slice lo hi none p2) pos) (gSlc to tl th) := by
  refine ⟨fun pins s σ H v u Q I r z => ?_⟩
  rw [arm_assign_Subscript]
  refine wpAny_bind (wpAny_holding (thn (ho.run pins s σ H _ I z) fun ov s1 ⟨x, H1, I1, r1, q1⟩ => ?_))
  refine wpAny_bind (wpAny_holding (wpAny_Slice (thn (hl.run pins s1 σ H1 _ I1 q1) fun vl s2 ⟨l, H2, I2, pl, q2⟩ => thn (hu.run pins s2 σ H2 _ I2 q2) fun vu s3 ⟨c', H3, I3, pu, q3⟩ => ?_)))
  rw [evalPart_none]
  refine wpAny_pure ?_
  obtain ⟨p, b, xs, ys, a, c, rfl, rfl, rfl, rfl, hp, hb, hne, h0, hac, hc, hz, q⟩ := q3
  cases r1
  cases r
  cases pl with
  | int _ ta =>
    cases pu with
    | int _ tc =>
      have I4 : Inv X pins σ H3 { s3 with heap := s3.heap.push { cls := .type "slice", data := .fields #[.int a ta, .int c tc, .none] } } := I3.kept (t' := s3.toks) fun b ob q => Heap.get?_push_of_some _ q
      refine wpAny_bind (wpAny_standAt (wpAny_bind (wpAny_holding (set_slice I4 hp hb hne (Heap.IsSliceOf.new ..) ⟨ta, rfl⟩ ⟨tc, rfl⟩ h0 hac hc hz fun s' I5 => ?_))))
      exact wpAny_release ⟨σ, _, I5, q⟩
end

/-! ### repr of lists -/
section
variable {X : Cx}
mutual
theorem dp_nodict {K : PySem.W.Frag} {H : Hp} : ∀ (d : PyData) (v : V), Dp K H v d → d.hasDict = false
  | .none, _, _ => rfl
  | .bool _, _, _ => rfl
  | .int _, _, _ => rfl
  | .str _, _, _ => rfl
  | .list ds, _, h => by
    cases h with
    | lst _ a => exact dp_nodictAll ds _ a
  | .tuple ds, _, h => by
    cases h with
    | tup _ a => exact dp_nodictAll ds _ a
  | .dict _, _, h => by cases h
theorem dp_nodictAll {K : PySem.W.Frag} {H : Hp} : ∀ (ds : List PyData) (vs : List V), DpAll K H vs ds → PyData.hasDictAll ds = false
  | [], _, _ => rfl
  | d :: ds, _, h => by
    cases h with
    | cons a b =>
      show (d.hasDict || PyData.hasDictAll ds) = false
      rw [dp_nodict d _ a, dp_nodictAll ds _ b]
      rfl
end
def rReprD (K : PySem.W.Frag) : List V → Hp → VK → Prop := fun xs H Q => ∃ a d, xs = [.ref a] ∧ Dp K H (.ref a) d ∧ d.showable = true ∧ d.depth ≤ 60 ∧ d.shown.length ≤ sizeLine ∧ Q (.str d.shown) H
theorem call_reprD (hG : X.A.guards = some []) (hu : X.A.units + 64 < cLine) : CallR X (.builtin "repr") (rReprD X.K) := by
  intro pins s σ H xs us Q I r h
  obtain ⟨a, d, rfl, hd, hs, hdp, hz, q⟩ := h
  obtain ⟨u, rfl, rfl⟩ := vals1 r
  obtain ⟨as, rd⟩ := Dp.reads I d _ _ hd rfl
  exact repr_of_reads' rd hs (fun z => by rw [dp_nodict d _ hd] at z; cases z) hG (by omega) (fun b o e => e) (fun h' u tk k => ⟨.str d.shown, H, I.kept k, ⟨u, rfl⟩, q⟩) hz
end
end Xk

set_option Elab.async false
set_option linter.all false
set_option maxRecDepth 100000
namespace Xk
open PySem PySem.Spec PyProof.Rows L2
/-! ### list(range(a, b, c)) -/
def rg3V (i c : Int) (n : Nat) : List V := (List.range n).map fun k => V.int (i + (k : Nat) * c)
theorem rg3V_length (i c : Int) (n : Nat) : (rg3V i c n).length = n := by unfold rg3V; simp
theorem vals_rg3 {i c : Int} {n : Nat} {acc : Array Value} (h : ItemsOf (fun k v => ∃ t, v = .int (i + k * c) t) acc n) : Vals (rg3V i c n) acc.toList := by
  have e : acc.toList.length = n := by rw [Array.length_toList]; exact h.1
  unfold rg3V
  rw [← e]
  refine vals_of_get _ (fun k => V.int (i + (k : Nat) * c)) fun j u hu => ?_
  exact h.2 j u (by simpa using hu)
def tLst3 (ta : TA) : TE := fun σ H Q => ta σ H fun vs H1 => ∃ (i j c : Int) (n : Nat), vs = [.int i, .int j, .int c] ∧ RgC i j c n ∧ n ≤ 2 ^ 24 ∧ ∀ q, H1 q = none → Q (.ref q) (upd H1 q (.lst (rg3V i c n)))
section
variable {X : Cx} {a b c : Expr} {ta : TA} {p pos p1 pos1 : Pos}
theorem pe_listRg3 (calm : X.calm = true) (hl : Gl X "list") (ml : X.mg "list" = none) (hg : Gl X "range") (hm : X.mg "range" = none) (ha : PA X [a, b, c] ta)
    (hs : starEach [a, b, c] X.env = (false, eval a X.env) :: starEach [b, c] X.env := by rfl) (hpl : (backTo pos (starEach [b, c] X.env)).any (·.1) = false := by rfl)
    (na : starEach [Expr.Call (.Name "range" p) [a, b, c] [] pos] X.env = (false, eval (Expr.Call (.Name "range" p) [a, b, c] [] pos) X.env) :: starEach [] X.env := by rfl) :
    PE X (.Call (.Name "list" p1) [.Call (.Name "range" p) [a, b, c] [] pos] [] pos1) (tLst3 ta) := by
  refine ⟨fun pins s σ H Q I z => ?_⟩
  refine Call_ (ld_blt I hl ml boot_list (PyProof.Rows.callWith_type1 (args_cons (Call_ (ld_blt I hg hm boot_range (PyProof.Rows.callWith_type1 (thn (ha.run pos pins s σ H _ I z) fun us s1 ⟨vs, H1, I1, r1, q1⟩ => ?_) hs hpl))) na) na))
  obtain ⟨i, j, k, n, e, ⟨c0, c1, c2, c3⟩, hn, q⟩ := q1
  subst e
  cases r1 with
  | cons r rr =>
    cases rr with
    | cons r' rr =>
      cases rr with
      | cons r'' rr =>
        cases rr
        obtain ⟨t, rfl⟩ := r
        obtain ⟨t', rfl⟩ := r'
        obtain ⟨t'', rfl⟩ := r''
        refine call_range_3 c0 (args_nil ?_) (.inl (PyProof.noPylong_small c1))
        have I2 : Inv X pins σ H1 { s1 with heap := s1.heap.push { cls := .type "range", data := .fields #[.int i t, .int j t', .int k t''] }, toks := s1.toks } := I1.kept fun b o e => Heap.get?_push_of_some _ e
        refine call_list_range (n := n) (I2.ok.hd calm) (IsRange.new ..) c2 c3 hn fun h' tk acc c' hk e' hi => ?_
        refine ⟨.ref _, upd H1 _ (.lst (rg3V i k n)), I2.laid hk (Nat.le_refl _) (show ObjOk X.prog X.w _ _ _ (.lst (rg3V i k n)) from ⟨?_, acc.toList, c', vals_rg3 hi, ?_⟩), rfl, q _ (I2.hok.fresh (Nat.le_refl _))⟩
        · rw [rg3V_length]; exact hn
        · rw [Array.toArray_toList]; exact e'
end
end Xk

set_option Elab.async false
set_option linter.all false
set_option maxRecDepth 100000
namespace Xk
open PySem PySem.Spec PyProof.Rows L2

section
variable {P : Program} {w : World} {K : PySem.W.Frag} {mg : Str → Option Value} {base : Heap}
/-- a def by its body, the guards known, nothing raised -/
theorem okG {x qual : Str} {st : Stmt} {f : Addr} {fd : FuncData} {N ps : List Str} {k : Nat} {sp : Sp} (F : Fun K x qual st f fd) (S : FnScope N ps (defScope st)) (cnt : ∀ vs H Q E, sp vs H Q E → vs.length = ps.length)
    (body : ∀ (cdv : Value) (A : Around) (ou : List Env) (t : Shared) (H : Hp) (vs : List V) (Q : VK) (E : XK), A.guards = some [] → Room k (A.deeper (envOfC qual (defScope st) t.heap.objs.size f cdv)) → sp vs H Q E →
      ∃ r, PSs (cxOf CX0 P w K mg base N qual (defScope st) f cdv A ou t H E).nox (defBody st) r ∧ r ⟨fun _ H' => Q .non H', Q, fun _ _ => False, fun _ _ => False⟩ (L2.start N vs) H) : FnG P w K mg base CX0 (k + 1) f fd ps sp := by
  obtain ⟨oc, od, kV, doc, pm, an, cdv, ct, osl, rfl, lk, hcd⟩ := F.ex
  refine fnG_of lk hcd S cnt fun A ou t H vs Q E hG hr hsp => ?_
  obtain ⟨r, h, q⟩ := body cdv A ou t H vs Q E hG hr hsp
  exact ⟨r, h.nox, q⟩
end

/-! ### words -/
section
variable {X : Cx} {x : Str} {pos pos' : Pos} {e : Expr} {te : TE} {op : Operator} {ti : TIp}
theorem sset (i : Nat) (nd : X.N.Nodup) (he : PE X e te) (hi : X.N[i]? = some x := by rfl) (hx : Loc X.env.scope x := by first | exact Or.inl rfl | exact Or.inr rfl)
    (hs : swapsWith e (some (.Name x pos')) pos.line X.env = pure false := by rfl) (hf : X.fn x = true ∨ X.env.scope.names.lookup x = some .local := by first | exact Or.inl rfl | exact Or.inr rfl) : PS X (.Assign [.Name x pos'] e pos) (tAsg te (gName i)) := ps_set nd hi hx he hs hf
theorem gset (i : Nat) (nd : X.N.Nodup) (hi : X.N[i]? = some x := by rfl) (hx : Loc X.env.scope x := by first | exact Or.inl rfl | exact Or.inr rfl) (hf : X.fn x = true ∨ X.env.scope.names.lookup x = some .local := by first | exact Or.inl rfl | exact Or.inr rfl) : PG X (.Name x pos) (gName i) := pg_name nd hi hx hf
theorem saug (i : Nat) (nd : X.N.Nodup) (he : PE X e te) (ho : PIp X op ti) (hi : X.N[i]? = some x := by rfl) (hx : Loc X.env.scope x := by first | exact Or.inl rfl | exact Or.inr rfl) (hf : X.fn x = true ∨ X.env.scope.names.lookup x = some .local := by first | exact Or.inl rfl | exact Or.inr rfl) : PS X (.AugAssign (.Name x pos') op e pos) (tAug i te ti) := ps_aug nd hi hx he ho hf
end
/-! ### the rules that speak of the written part, the part given -/
section
variable {X : Cx} (K : PySem.W.Frag) {e a b l o : Expr} {es ts : List Expr} {te ta tb tl to : TE} {t : TA} {g : TGs} {pos cpos apos p p1 p2 p3 tpos : Pos} {tg : Expr} {T id : String} {name : Str}
theorem ix_listK (hK : X.K = K := by rfl) : IxR X (rIxL K) := hK ▸ ix_list
theorem ix_tupK (hK : X.K = K := by rfl) : IxR X (rIxT K) := hK ▸ ix_tup
theorem sl_listK (hK : X.K = K := by rfl) : SlR X (rSlL K) := hK ▸ sl_list
theorem sl_tupK (hK : X.K = K := by rfl) : SlR X (rSlT K) := hK ▸ sl_tup
def rLen (K : PySem.W.Frag) : List V → Hp → VK → Prop := fun xs H Q => ∃ p ys, xs = [.ref p] ∧ (SqL K H p ys ∨ SqT K H p ys) ∧ Q (.int ys.length) H
theorem lenK (hK : X.K = K := by rfl) : CallR X (.builtin "len") (rLen K) := hK ▸ call_len_seq
def rListOf (K : PySem.W.Frag) : List V → Hp → VK → Prop := fun xs H Q => ∃ p ys, xs = [.ref p] ∧ (SqL K H p ys ∨ SqT K H p ys) ∧ ∀ l, H l = none → Q (.ref l) (upd H l (.lst ys))
theorem listK (hK : X.K = K := by rfl) : CallR X (.type "list") (rListOf K) := hK ▸ call_list_of
def rTupOf (K : PySem.W.Frag) : List V → Hp → VK → Prop := fun xs H Q => ∃ p ys, xs = [.ref p] ∧ ((SqL K H p ys ∧ ∀ l, H l = none → Q (.ref l) (upd H l (.tup ys))) ∨ (SqT K H p ys ∧ Q (.ref p) H))
theorem tupleK (hK : X.K = K := by rfl) : CallR X (.type "tuple") (rTupOf K) := hK ▸ call_tuple_of
theorem sumK (hc : X.calm = true) (hK : X.K = K := by rfl) : CallR X (.builtin "sum") (rSum K) := hK ▸ cr_sum hc
theorem minK (hc : X.calm = true) (hK : X.K = K := by rfl) : CallR X (.builtin "min") (rMin K) := hK ▸ cr_min hc
theorem maxK (hc : X.calm = true) (hK : X.K = K := by rfl) : CallR X (.builtin "max") (rMax K) := hK ▸ cr_max hc
theorem allK (hc : X.calm = true) (hK : X.K = K := by rfl) : CallR X (.builtin "all") (rAll K) := hK ▸ cr_all hc
theorem anyK (hc : X.calm = true) (hK : X.K = K := by rfl) : CallR X (.builtin "any") (rAny K) := hK ▸ cr_any hc
theorem sortedK (hK : X.K = K := by rfl) : CallR X (.builtin "sorted") (rSortedI K) := hK ▸ cr_sortedI
theorem sortedRK (hK : X.K = K := by rfl) : CallRK X (.builtin "sorted") [Str.ofString "reverse"] (rSortedKw K true [.bl true]) := hK ▸ cr_sortedRev
theorem reprK (hG : X.A.guards = some []) (hu : X.A.units + 64 < cLine) (hK : X.K = K := by rfl) : CallR X (.builtin "repr") (rReprD K) := hK ▸ call_reprD hG hu
theorem eqDK (hu : X.A.units + 64 < cLine) (hK : X.K = K := by rfl) : OpR X (compareOp .Eq) (rEqD K) := hK ▸ op_eqD hu
theorem neDK (hu : X.A.units + 64 < cLine) (hK : X.K = K := by rfl) : OpR X (compareOp .NotEq) (rNeD K) := hK ▸ op_neD hu
theorem inK (hK : X.K = K := by rfl) : OpR X (compareOp .In) (rIn K false) := hK ▸ op_in_seq
theorem notInK (hK : X.K = K := by rfl) : OpR X (compareOp .NotIn) (rIn K true) := hK ▸ op_notIn_seq
theorem lcountK (hK : X.K = K := by rfl) : MtR X "list.count" (rCntI K) := hK ▸ mt_lcount
theorem lindexK (hK : X.K = K := by rfl) : MtR X "list.index" (rIndex K) := hK ▸ mt_index
theorem getK (hK : X.K = K := by rfl) : PGet X (rIxL K) := hK ▸ get_list
theorem pi_listK (h : PE X l tl) (hK : X.K = K := by rfl) : PI X tg l (iList K tl) := hK ▸ pi_list h
theorem pi_tupK (h : PE X l tl) (hK : X.K = K := by rfl) : PI X tg l (iTup K tl) := hK ▸ pi_tup h
theorem pi_enumK {elts : List Expr} {kk : Nat} (hg : Gl X "enumerate") (hm : X.mg "enumerate" = none) (ha : PA X [e] t) (hs : starEach [e] X.env = [(false, eval e X.env)] := by rfl) (hK : X.K = K := by rfl) :
    PI X (.Tuple elts kk tpos) (.Call (.Name "enumerate" p) [e] [] pos) (iEnum K t) := hK ▸ pi_enum hg hm ha hs
theorem pi_reversedK (hg : Gl X "reversed") (hm : X.mg "reversed" = none) (ha : PA X [e] t) (hs : starEach [e] X.env = [(false, eval e X.env)] := by rfl) (hK : X.K = K := by rfl) : PI X tg (.Call (.Name "reversed" p) [e] [] pos) (iRev K t) := hK ▸ pi_reversed hg hm ha hs
theorem pe_revLK {k : Nat} (he : PE X e te) (hK : X.K = K := by rfl) : PE X (.Subscript e (.Slice none none (some (.UnaryOp .USub (.Constant (.int 1) k p1) p2)) p3) pos) (tRevL K te) := hK ▸ pe_revL he
theorem pg_tupK {k : Nat} (n : Nat) (hc : X.calm = true) (h : PGs X es g) (hn : (assignEach es X.env).length = n := by rfl) (hst : (assignEach es X.env).findIdx? (·.1) = none := by rfl) (hK : X.K = K := by rfl) : PG X (.Tuple es k pos) (gTup K n g) := hK ▸ pg_tup hc h hn hst
theorem pi_zipK {e2 : Expr} {elts : List Expr} {kk : Nat} (hg : Gl X "zip") (hm : X.mg "zip" = none) (ha : PA X [e, e2] t)
    (hs : starEach [e, e2] X.env = (false, eval e X.env) :: starEach [e2] X.env := by rfl) (hpl : (backTo pos (starEach [e2] X.env)).any (·.1) = false := by rfl) (hK : X.K = K := by rfl) :
    PI X (.Tuple elts kk tpos) (.Call (.Name "zip" p) [e, e2] [] pos) (iZip K t) := hK ▸ pi_zip hg hm ha hs hpl
theorem pe_bmK {r : V → List V → Hp → VK → Prop} (pa : PlainAttrs T) (slot : Slot T name id) (hty : typeOf (.builtin id) = pure (.type "method_descriptor")) (hm : MtR X id r) (ho : PE X o to) (ha : PA X (e :: es) t)
    (hbase : attributeBase o name X.env (eval o X.env) = eval o X.env := by rfl)
    (hfew : ((backTo cpos (starEach (e :: es) X.env)).all (fun x => !x.1) && (backToKw cpos (keywordEach [] X.env)).all (fun x => x.1.isSome) && decide ((e :: es).length + ([] : List Keyword).length + (if ([] : List Keyword).isEmpty then 0 else 1) < 30)) = true := by rfl)
    (hline : (apos.endLine == cpos.line) = true := by rfl) (hs : starEach (e :: es) X.env = (false, eval e X.env) :: starEach es X.env := by rfl) (hplain : (backTo cpos (starEach es X.env)).any (·.1) = false := by rfl) (hK : X.K = K := by rfl) :
    PE X (.Call (.Attribute o name apos) (e :: es) [] cpos) (tBM K T r to t) := hK ▸ pe_bm pa slot hty hm ho ha hbase hfew hline hs hplain
theorem pe_bm0K {r : V → List V → Hp → VK → Prop} (pa : PlainAttrs T) (slot : Slot T name id) (hty : typeOf (.builtin id) = pure (.type "method_descriptor")) (hm : MtR X id r) (ho : PE X o to)
    (hbase : attributeBase o name X.env (eval o X.env) = eval o X.env := by rfl) (hline : (apos.endLine == cpos.line) = true := by rfl) (hK : X.K = K := by rfl) : PE X (.Call (.Attribute o name apos) [] [] cpos) (tBM0 K T r to) := hK ▸ pe_bm0 pa slot hty hm ho hbase hline
def tTruth (K : PySem.W.Frag) (ta : TE) : TT := fun σ H Q => ta σ H fun x H' => ∃ k, TruV K x H' k ∧ Q k H'
theorem pt_truthK (ha : PE X a ta) (he : ∀ whole, isTrue a X.env whole = (do let v ← whole; standAt a.pos; holding [v] (truthy v)) := by intro _; rfl) (hK : X.K = K := by rfl) : PT X a (tTruth K ta) := hK ▸ pt_truth ha he
end
end Xk

set_option Elab.async false
set_option linter.all false
set_option maxRecDepth 100000
namespace Xk
open PySem PySem.Spec PyProof.Rows L2

section
variable {K : PySem.W.Frag} {σ : L2.St} {H : Hp} {Q : VK} {R : List V → Hp → Prop} {ta tb te tc tv : TE} {tA : TA} {t u : TT} {v x y : V} {i j : Int} {Qb : Bool → Hp → Prop}
  {nx bk ct : L2.St → Hp → Prop} {rt : VK} {s1 s2 : TS} {g g1 : TG} {gs : TGs}
/-! ### expressions -/
theorem r_var {n : Nat} (h : σ[n]? = some (some v)) (q : Q v H) : tVar n σ H Q := ⟨v, h, q⟩
theorem r_c (q : Q v H) : tC v σ H Q := q
theorem r_op {r : R2} (h : ta σ H fun x H1 => tb σ H1 fun y H2 => r x y H2 Q) : tOp r ta tb σ H Q := h
theorem r_un {r : V → Hp → VK → Prop} (h : ta σ H fun x H1 => r x H1 Q) : tUn r ta σ H Q := h
theorem r_I0 {f : Int → Int → V} (q : Q (f i j) H) : rI0 f (.int i) (.int j) H Q := ⟨i, j, rfl, rfl, q⟩
theorem r_I {C : Int → Int → Prop} {f : Int → Int → V} (hc : C i j) (q : Q (f i j) H) : rI C f (.int i) (.int j) H Q := ⟨i, j, rfl, rfl, hc, q⟩
theorem r_U {f : Int → V} (q : Q (f i) H) : rU f (.int i) H Q := ⟨i, rfl, q⟩
theorem r_ixL {p : Addr} {xs : List V} (h : SqL K H p xs) (ha : atI xs i = some v) (q : Q v H) : rIxL K (.ref p) (.int i) H Q := ⟨p, xs, i, v, rfl, rfl, h, ha, q⟩
theorem r_ixT {p : Addr} {xs : List V} (h : SqT K H p xs) (ha : atI xs i = some v) (q : Q v H) : rIxT K (.ref p) (.int i) H Q := ⟨p, xs, i, v, rfl, rfl, h, ha, q⟩
theorem r_nil (q : R [] H) : tNil σ H R := q
theorem r_cons (h : ta σ H fun x H1 => tA σ H1 fun xs H2 => R (x :: xs) H2) : tCons ta tA σ H R := h
theorem r_lst (h : tA σ H fun xs H1 => xs.length ≤ sizeLine ∧ ∀ p, H1 p = none → Q (.ref p) (upd H1 p (.lst xs))) : tLst tA σ H Q := h
theorem r_tup (h : tA σ H fun xs H1 => xs.length ≤ sizeLine ∧ ∀ p, H1 p = none → Q (.ref p) (upd H1 p (.tup xs))) : tTup tA σ H Q := h
theorem r_call {sp : Sp} {dvs : List V} {E : XK} (h : tA σ H fun vs H1 => sp (vs ++ dvs) H1 Q E) : tCall sp dvs E tA σ H Q := h
theorem r_callK {sp : Sp} {gV : List V → List V → List V} {E : XK} {tk : TA} (h : tA σ H fun vs H1 => tk σ H1 fun zs H2 => sp (gV vs zs) H2 Q E) : tCallK sp gV E tA tk σ H Q := h
theorem r_cb {r : List V → Hp → VK → Prop} (h : tA σ H fun vs H1 => r vs H1 Q) : tCB r tA σ H Q := h
theorem r_ckw {r : List V → List V → Hp → VK → Prop} {tk : TA} (h : tA σ H fun vs H1 => tk σ H1 fun zs H2 => r vs zs H2 Q) : tCKw r tA tk σ H Q := h
theorem r_sl {r : V → Option Int → Option Int → Hp → VK → Prop} {tl th : TO} (h : te σ H fun x H1 => tl σ H1 fun l H2 => th σ H2 fun u H3 => r x l u H3 Q) : tSl r te tl th σ H Q := h
theorem r_part {Qo : Option Int → Hp → Prop} (h : te σ H fun x H1 => ∃ i, x = .int i ∧ Qo (some i) H1) : tPart te σ H Qo := h
theorem r_nopart {Qo : Option Int → Hp → Prop} (h : Qo none H) : tNoPart σ H Qo := h
theorem r_exi {Qo : Int → Prop} (h : Qo i) : ∃ j, V.int i = .int j ∧ Qo j := ⟨i, rfl, h⟩
theorem r_exb {b : Bool} {Qo : Bool → Prop} (h : Qo b) : ∃ j, V.bl b = .bl j ∧ Qo j := ⟨b, rfl, h⟩
theorem r_slL {p : Addr} {xs : List V} {lo hi : Option Int} (h : SqL K H p xs) (q : ∀ n, H n = none → Q (.ref n) (upd H n (.lst (cutV xs lo hi)))) : rSlL K (.ref p) lo hi H Q := ⟨p, xs, rfl, h, q⟩
theorem r_bm {T : String} {r : V → List V → Hp → VK → Prop} (h : te σ H fun x H1 => tyV K T x H1 ∧ tA σ H1 fun xs H2 => r x xs H2 Q) : tBM K T r te tA σ H Q := h
theorem r_bm0 {T : String} {r : V → List V → Hp → VK → Prop} (h : te σ H fun x H1 => tyV K T x H1 ∧ r x [] H1 Q) : tBM0 K T r te σ H Q := h
theorem ty_list {p : Addr} {xs : List V} (h : SqL K H p xs) : tyV K "list" (.ref p) H := .inl ⟨rfl, xs, h⟩
theorem r_append {p : Addr} {xs : List V} {y : V} (h : H p = some (.lst xs)) (hz : xs.length < sizeLine) (q : Q .non (upd H p (.lst (xs ++ [y])))) : rAppend (.ref p) [y] H Q := ⟨p, xs, y, rfl, rfl, h, hz, q⟩
theorem r_if {tif : TT} (h : tif σ H fun c H1 => if c = true then ta σ H1 Q else tb σ H1 Q) : tIf tif ta tb σ H Q := h
theorem r_andV (h : ta σ H fun x H1 => ∃ c, x = .bl c ∧ if c = true then tb σ H1 Q else Q (.bl false) H1) : tAndV ta tb σ H Q := h
theorem r_orV (h : ta σ H fun x H1 => ∃ c, x = .bl c ∧ if c = true then Q (.bl true) H1 else tb σ H1 Q) : tOrV ta tb σ H Q := h
theorem r_notV (h : ta σ H fun x H1 => ∃ c, x = .bl c ∧ Q (.bl (!c)) H1) : tNotV ta σ H Q := h
theorem r_eqI (q : Q (.bl (decide (i = j))) H) : rEq (.int i) (.int j) H Q := by
  refine ⟨rfl, ?_⟩
  have : decide (V.int i = V.int j) = decide (i = j) := by simp
  rw [this]
  exact q
theorem r_neI (q : Q (.bl (!decide (i = j))) H) : rNe (.int i) (.int j) H Q := by
  refine ⟨rfl, ?_⟩
  have : decide (V.int i = V.int j) = decide (i = j) := by simp
  rw [this]
  exact q
theorem r_eqS {a b : Str} (q : Q (.bl (decide (a = b))) H) : rEq (.str a) (.str b) H Q := by
  refine ⟨rfl, ?_⟩
  have : decide (V.str a = V.str b) = decide (a = b) := by simp
  rw [this]
  exact q
theorem r_neS {a b : Str} (q : Q (.bl (!decide (a = b))) H) : rNe (.str a) (.str b) H Q := by
  refine ⟨rfl, ?_⟩
  have : decide (V.str a = V.str b) = decide (a = b) := by simp
  rw [this]
  exact q
theorem r_len {p : Addr} {xs : List V} (h : SqL K H p xs) (q : Q (.int xs.length) H) : Xk.rLen K [.ref p] H Q := ⟨p, xs, rfl, .inl h, q⟩
theorem r_listOf {p : Addr} {xs : List V} (h : SqL K H p xs) (q : ∀ l, H l = none → Q (.ref l) (upd H l (.lst xs))) : rListOf K [.ref p] H Q := ⟨p, xs, rfl, .inl h, q⟩
theorem r_sum {p : Addr} {ns : List Int} (h : SqL K H p (ns.map V.int)) (q : Q (.int ns.sum) H) : rSum K [.ref p] H Q := ⟨p, ns, rfl, h, q⟩
theorem r_notT {A B : Prop} (h : B) : if (!true) = true then A else B := by simpa using h
theorem r_notF {A B : Prop} (h : A) : if (!false) = true then A else B := by simpa using h
/-! ### tests -/
theorem r_test (h : te σ H fun x H' => ∃ k, x = .bl k ∧ Qb k H') : tTest te σ H Qb := h
theorem r_tB (h : te σ H fun x H' => ∃ k, x = .bl k ∧ Qb k H') : tB te σ H Qb := h
theorem r_tand (h : t σ H fun c H1 => if c = true then u σ H1 Qb else Qb false H1) : tAnd t u σ H Qb := h
theorem r_tor (h : t σ H fun c H1 => if c = true then Qb true H1 else u σ H1 Qb) : tOr t u σ H Qb := h
theorem r_tnot (h : t σ H fun c H1 => Qb (!c) H1) : tNot t σ H Qb := h
theorem r_yes (h : Qb true H) : tYes σ H Qb := h
theorem r_dec {p : Prop} [Decidable p] {A B : Prop} (h1 : p → A) (h2 : ¬p → B) : if decide p = true then A else B := by
  by_cases h : p
  · rw [decide_eq_true h]; exact h1 h
  · rw [decide_eq_false h]; exact h2 h
theorem r_ndec {p : Prop} [Decidable p] {A B : Prop} (h1 : ¬p → A) (h2 : p → B) : if (!decide p) = true then A else B := by
  by_cases h : p
  · rw [decide_eq_true h]; exact h2 h
  · rw [decide_eq_false h]; exact h1 h
theorem r_itT {A B : Prop} (h : A) : if true = true then A else B := by rw [if_pos rfl]; exact h
theorem r_itF {A B : Prop} (h : B) : if false = true then A else B := by rw [if_neg Bool.false_ne_true]; exact h
/-! ### statements -/
theorem r_seq (h : s1 ⟨s2 ⟨nx, rt, bk, ct⟩, rt, bk, ct⟩ σ H) : tSeq s1 s2 ⟨nx, rt, bk, ct⟩ σ H := h
theorem r_cut {u : TS} (Mid : L2.St → Hp → Prop) (h : s1 ⟨Mid, rt, bk, ct⟩ σ H) (g : ∀ σ' H', Mid σ' H' → u ⟨nx, rt, bk, ct⟩ σ' H') : C8.tCut s1 u ⟨nx, rt, bk, ct⟩ σ H := ⟨Mid, h, g⟩
theorem r_next (h : nx σ H) : tNext ⟨nx, rt, bk, ct⟩ σ H := h
theorem r_asg (h : te σ H fun x H1 => g x σ H1 nx) : tAsg te g ⟨nx, rt, bk, ct⟩ σ H := h
theorem r_ret (h : te σ H rt) : tRet te ⟨nx, rt, bk, ct⟩ σ H := h
theorem r_drop (h : te σ H fun _ H1 => nx σ H1) : tDrop te ⟨nx, rt, bk, ct⟩ σ H := h
theorem r_ifS (h : t σ H fun b H1 => if b = true then s1 ⟨nx, rt, bk, ct⟩ σ H1 else s2 ⟨nx, rt, bk, ct⟩ σ H1) : tIfS t s1 s2 ⟨nx, rt, bk, ct⟩ σ H := h
theorem r_par {a b : Nat} (h : tA σ H fun vs H1 => ∃ v w, vs = [v, w] ∧ nx ((σ.set a (some v)).set b (some w)) H1) : tPar a b tA ⟨nx, rt, bk, ct⟩ σ H := h
theorem r_ex2 {f : V → V → Prop} (h : f x y) : ∃ v w, [x, y] = [v, w] ∧ f v w := ⟨x, y, rfl, h⟩
theorem r_brk (h : bk σ H) : tBreak ⟨nx, rt, bk, ct⟩ σ H := h
theorem r_cont (h : ct σ H) : tCont ⟨nx, rt, bk, ct⟩ σ H := h
theorem r_aug {n : Nat} {ti : TIp} (h : σ[n]? = some (some x)) (q : te σ H fun y H1 => ti x y H1 fun z H2 => nx (σ.set n (some z)) H2) : tAug n te ti ⟨nx, rt, bk, ct⟩ σ H := ⟨x, h, q⟩
theorem r_ipI {f : Int → Int → Int} (q : Q (.int (f i j)) H) : ipI f (.int i) (.int j) H Q := ⟨i, j, rfl, rfl, q⟩
theorem r_for {wi : TI} (h : wi σ H fun J H1 => ∃ W : Nat → Nat → L2.St → Hp → Prop, (∃ m, W 0 m σ H1) ∧ ∀ i m σ H, W i m σ H → (J.stop i H ∧ nx σ H) ∨ (J.go i H ∧ ∃ N : L2.St → Hp → Prop, (∀ σ' H', N σ' H' → ∃ m', m' < m ∧ W (i + 1) m' σ' H') ∧
    ∀ x H', J.yld i H x H' → g x σ H' fun σ2 H2 => s1 ⟨N, rt, nx, N⟩ σ2 H2)) : tFor wi g s1 ⟨nx, rt, bk, ct⟩ σ H := h
theorem r_augS {tget : V → V → Hp → VK → Prop} {ti : TIp} {ts : TSet} (h : ta σ H fun o H1 => tb σ H1 fun i H2 => tget o i H2 fun x H3 => te σ H3 fun y H4 => ti x y H4 fun z H5 => ts o i z H5 fun H6 => nx σ H6) : tAugS ta tb te tget ti ts ⟨nx, rt, bk, ct⟩ σ H := h
/-! ### targets -/
variable {Qs : L2.St → Hp → Prop}
theorem r_name {n : Nat} (q : Qs (σ.set n (some v)) H) : gName n v σ H Qs := q
theorem r_gtup {n : Nat} {p : Addr} {xs : List V} (h : SqT K H p xs) (hl : xs.length = n) (q : gs xs σ H Qs) : gTup K n gs (.ref p) σ H Qs := ⟨p, xs, rfl, h, hl, q⟩
theorem r_gcons {vs : List V} (q : g v σ H fun σ' H' => gs vs σ' H' Qs) : gCons g gs (v :: vs) σ H Qs := ⟨v, vs, rfl, q⟩
theorem r_gnil (q : Qs σ H) : gNil [] σ H Qs := ⟨rfl, q⟩
theorem r_gsub {ts : TSet} (h : te σ H fun o H1 => tv σ H1 fun i H2 => ts o i v H2 fun H3 => Qs σ H3) : gSub te tv ts v σ H Qs := h
theorem r_gslc {tl th : TO} (h : te σ H fun x H1 => tl σ H1 fun l H2 => th σ H2 fun u H3 => ∃ (p b : Addr) (xs ys : List V) (a c : Int), x = .ref p ∧ v = .ref b ∧ l = some a ∧ u = some c ∧ H3 p = some (.lst xs) ∧ H3 b = some (.lst ys) ∧ p ≠ b ∧ 0 ≤ a ∧ a ≤ c ∧ c ≤ xs.length ∧ xs.length + ys.length ≤ sizeLine ∧
    Qs σ (upd H3 p (.lst (xs.take a.toNat ++ ys ++ xs.drop c.toNat)))) : gSlc te tl th v σ H Qs := h
theorem r_setL {Qh : Hp → Prop} {p : Addr} {xs : List V} {n : Nat} (h : H p = some (.lst xs)) (hi : ixN xs.length i = some n) (q : Qh (upd H p (.lst (xs.set n v)))) : rSetL (.ref p) (.int i) v H Qh := ⟨p, xs, i, n, rfl, rfl, h, hi, q⟩
end
theorem szL {n : Nat} (h : Nat.ble n 16777216 = true) : n ≤ sizeLine := Nat.le_of_ble_eq_true h
theorem at_0 {x : V} {xs : List V} : atI (x :: xs) 0 = some x := at_of (j := 0) rfl rfl
theorem at_1 {x y : V} {xs : List V} : atI (x :: y :: xs) 1 = some y := at_of (j := 1) rfl rfl
theorem at_2 {x y z : V} {xs : List V} : atI (x :: y :: z :: xs) 2 = some z := at_of (j := 2) rfl rfl
theorem at_3 {x y z u : V} {xs : List V} : atI (x :: y :: z :: u :: xs) 3 = some u := at_of (j := 3) rfl rfl
theorem sq {K : PySem.W.Frag} {H : Hp} {p : Addr} {xs : List V} (h : H p = some (.lst xs)) : SqL K H p xs := .inl (.inl h)
theorem sqT {K : PySem.W.Frag} {H : Hp} {p : Addr} {xs : List V} (h : H p = some (.tup xs)) : SqT K H p xs := .inl (.inl h)

section
variable {w : World} {H : Hp} {σ : L2.St} {Q : VK} {te : TE} {tA : TA} {a : Addr} {k : Int} {S : Int → Bool} {n : Nat}
theorem r_set0 (q : ∀ p, H p = none → Q (.ref p) (upd H p (SetO w p (fun _ => false) 0))) : rSet0 w [] H Q := ⟨rfl, q⟩
theorem r_sin (h : H a = some (SetO w a S n)) (q : Q (.bl (S k)) H) : rSIn w (.int k) (.ref a) H Q := ⟨k, a, S, n, rfl, rfl, h, q⟩
theorem r_snotin (h : H a = some (SetO w a S n)) (q : Q (.bl (!S k)) H) : rSNotIn w (.int k) (.ref a) H Q := ⟨k, a, S, n, rfl, rfl, h, q⟩
theorem r_sadd0 (h : te σ H fun x H1 => (∃ a S n, x = V.ref a ∧ H1 a = some (SetO w a S n)) ∧ tA σ H1 fun xs H2 => rSAdd w x xs H2 Q) : tSAdd w te tA σ H Q := h
theorem r_sadd (h : H a = some (SetO w a S n)) (hn : n + 1 < 4096) (q : Q .non (upd H a (SetO w a (fun j => S j || decide (j = k)) (if S k = true then n else n + 1)))) : rSAdd w (.ref a) [.int k] H Q := ⟨a, k, S, n, rfl, rfl, h, hn, q⟩
end
/-! ### what a for walks -/
section
variable {K : PySem.W.Frag} {σ : L2.St} {H : Hp} {tA : TA} {te : TE} {R : L2.It → Hp → Prop}
theorem r_iEnum (h : tA σ H fun vs H1 => ∃ a xs, vs = [.ref a] ∧ SqL K H1 a xs ∧ R (Ite K a) H1) : iEnum K tA σ H R := h
theorem r_iList (h : te σ H fun x H1 => ∃ a, x = .ref a ∧ (∃ xs, SqL K H1 a xs) ∧ R (Itl K a) H1) : iList K te σ H R := h
theorem r_iTup (h : te σ H fun x H1 => ∃ a, x = .ref a ∧ (∃ xs, SqT K H1 a xs) ∧ R (Itt K a) H1) : iTup K te σ H R := h
theorem r_iRng1 (h : tA σ H fun vs H1 => ∃ j : Int, vs = [.int j] ∧ -(2 ^ 62) ≤ j ∧ j < 2 ^ 62 ∧ R (Itr 0 j.toNat) H1) : iRng1 tA σ H R := h
theorem r_iRng2 (h : tA σ H fun vs H1 => ∃ i j : Int, vs = [.int i, .int j] ∧ (-(2 ^ 62) ≤ i ∧ i < 2 ^ 62 ∧ -(2 ^ 62) ≤ j ∧ j < 2 ^ 62) ∧ R (Itr i (j - i).toNat) H1) : iRng2 tA σ H R := h
theorem r_iRng3 (h : tA σ H fun vs H1 => ∃ (i j c : Int) (n : Nat), vs = [.int i, .int j, .int c] ∧ RgC i j c n ∧ R (Itc i c n) H1) : iRng3 tA σ H R := h
theorem r_iZip (h : tA σ H fun vs H1 => ∃ a b xs ys, vs = [.ref a, .ref b] ∧ SqL K H1 a xs ∧ SqL K H1 b ys ∧ R (Itz K a b) H1) : iZip K tA σ H R := h
theorem r_lc {wi : TI} {g : TG} {tt : TT} {vs : List Nat} {Q : VK} (h : wi σ H fun J H1 => ∀ D, H1 D = none → ∃ W : Nat → Nat → Hp → Prop, (∃ m, W 0 m (upd H1 D (.lst []))) ∧ ∀ i m H, W i m H →
  (J.stop i H ∧ Q (.ref D) H) ∨ (J.go i H ∧ ∃ Nx : Hp → Prop, (∀ H', Nx H' → ∃ m', m' < m ∧ W (i + 1) m' H') ∧ ∀ x H', J.yld i H x H' → g x (wipe σ vs) H' fun σ2 H2 => wipe σ2 vs = wipe σ vs ∧ tt σ2 H2 fun b H3 =>
    if b = true then te σ2 H3 fun y H4 => ∃ acc, H4 D = some (.lst acc) ∧ acc.length < sizeLine ∧ Nx (upd H4 D (.lst (acc ++ [y]))) else Nx H3)) : tLc wi g tt te vs σ H Q := h
theorem r_lrg {tr : L2.St → Hp → (Int → Int → Hp → Prop) → Prop} {Q : VK} (h : tr σ H fun a b H1 => RgOk a b ∧ ∀ q, H1 q = none → Q (.ref q) (upd H1 q (.lst (rgV a b)))) : tLstRg tr σ H Q := h
theorem r_rg1 {Q : Int → Int → Hp → Prop} (h : te σ H fun x H1 => ∃ n, x = .int n ∧ Q 0 n H1) : tRg1 te σ H Q := h
theorem r_rg2 {tb : TE} {Q : Int → Int → Hp → Prop} (h : te σ H fun x H1 => tb σ H1 fun y H2 => ∃ i j, x = .int i ∧ y = .int j ∧ Q i j H2) : tRg2 te tb σ H Q := h
theorem r_l3 {Q : VK} (h : tA σ H fun vs H1 => ∃ (i j c : Int) (n : Nat), vs = [.int i, .int j, .int c] ∧ RgC i j c n ∧ n ≤ 2 ^ 24 ∧ ∀ q, H1 q = none → Q (.ref q) (upd H1 q (.lst (rg3V i c n)))) : tLst3 tA σ H Q := h
theorem r_revL {Q : VK} (h : te σ H fun x H1 => ∃ a xs, x = .ref a ∧ SqL K H1 a xs ∧ ∀ p, H1 p = none → Q (.ref p) (upd H1 p (.lst xs.reverse))) : tRevL K te σ H Q := h
theorem r_exr {a : Addr} {f : Addr → Prop} (h : f a) : ∃ b, V.ref a = .ref b ∧ f b := ⟨a, rfl, h⟩
end
section
variable {σ : L2.St} {H : Hp} {c : TT} {tb : TS} {nx bk ct : L2.St → Hp → Prop} {rt : VK}
theorem r_while (W : Nat → L2.St → Hp → Prop) (m : Nat) (h0 : W m σ H) (hs : ∀ m σ H, W m σ H → c σ H fun b H1 => if b = true then ∃ N : L2.St → Hp → Prop, (∀ σ' H', N σ' H' → ∃ m', m' < m ∧ W m' σ' H') ∧ tb ⟨N, rt, nx, N⟩ σ H1 else nx σ H1) : tWhile c tb ⟨nx, rt, bk, ct⟩ σ H :=
  ⟨W, ⟨m, h0⟩, hs⟩
theorem r_turn {W : Nat → L2.St → Hp → Prop} {m : Nat} (h : tb ⟨fun σ' H' => ∃ m', m' < m ∧ W m' σ' H', rt, nx, fun σ' H' => ∃ m', m' < m ∧ W m' σ' H'⟩ σ H) : ∃ N : L2.St → Hp → Prop, (∀ σ' H', N σ' H' → ∃ m', m' < m ∧ W m' σ' H') ∧ tb ⟨N, rt, nx, N⟩ σ H :=
  ⟨_, fun _ _ h => h, h⟩
theorem r_itD {p : Prop} [Decidable p] {A B : Prop} (hp : p) (h : A) : if decide p = true then A else B := by rw [decide_eq_true hp]; exact h
theorem r_itDF {p : Prop} [Decidable p] {A B : Prop} (hp : ¬p) (h : B) : if decide p = true then A else B := by rw [decide_eq_false hp]; exact h
theorem r_itN {p : Prop} [Decidable p] {A B : Prop} (hp : ¬p) (h : A) : if (!decide p) = true then A else B := by rw [decide_eq_false hp]; exact h
theorem r_itNF {p : Prop} [Decidable p] {A B : Prop} (hp : p) (h : B) : if (!decide p) = true then A else B := by rw [decide_eq_true hp]; exact h
theorem r_popAt {l : Addr} {xs : List V} {i : Int} {k : Nat} {y : V} {Q : VK} (h : H l = some (.lst xs)) (e : i = (k : Int)) (hk : xs[k]? = some y) (hz : k < 2 ^ 63) (q : Q y (upd H l (.lst (xs.eraseIdx k)))) : rPopAt (.ref l) [.int i] H Q := by
  subst e
  have hl : k < xs.length := (List.getElem?_eq_some_iff.mp hk).1
  exact ⟨l, xs, k, k, y, rfl, rfl, h, by omega, by omega, seqIndex_of (by omega) (by omega), hk, q⟩
end
/-! ### what stands in a heap -/
/-- all but r stands as it was -/
def Sx (r : Addr) (H H' : Hp) : Prop := ∀ b o, b ≠ r → H b = some o → H' b = some o
section
variable {H H' : Hp} {a b r : Addr} {o u : HO}
theorem upd_old (np : H a = none) (h : H b = some u) : upd H a o b = some u := (upd_ne (ne_of_none h np)).trans h
theorem upd_to (n : b ≠ a) (h : H b = some u) : upd H a o b = some u := (upd_ne n).trans h
theorem same_to (s : Same H H') (h : H b = some u) : H' b = some u := s b u h
theorem sx_to (s : Sx r H H') (n : b ≠ r) (h : H b = some u) : H' b = some u := s b u n h
theorem sx_of (s : Same H H') : Sx r H H' := fun b o _ h => s b o h
theorem same_new (np : H a = none) : Same H (upd H a o) := fun b u h => upd_old np h
theorem same_old {H0 : Hp} (s : Same H0 H) (n : H0 a = none) : Same H0 (upd H a o) := fun b u h => upd_to (ne_of_none h n) (s b u h)
theorem Sx.refl : Sx r H H := fun _ _ _ h => h
theorem Sx.trans {H1 : Hp} (s : Sx r H H1) (t : Sx r H1 H') : Sx r H H' := fun b o n h => t b o n (s b o n h)
theorem Sx.put : Sx r H (L2.upd H r o) := fun b u n h => upd_to n h
theorem Sx.new (np : H a = none) : Sx r H (L2.upd H a o) := fun b u _ h => upd_old np h
theorem Sx.old {H0 : Hp} (s : Sx r H0 H) (n : H0 a = none) : Sx r H0 (L2.upd H a o) := fun b u hb h => upd_to (ne_of_none h n) (s b u hb h)
theorem Sx.same {H1 : Hp} (s : Sx r H H1) (t : Same H1 H') : Sx r H H' := s.trans (sx_of t)
theorem Sx.free (s : Sx r H H') (hr : H' r = some u) (h : H' a = none) : H a = none := by
  cases q : H a with
  | none => rfl
  | some o =>
    by_cases e : a = r
    · subst e; rw [hr] at h; cases h
    · rw [s a o e q] at h; cases h
end
end Xk
/-- one step whose answer is known -/
local macro_rules | `(tactic| fail "one") => `(tactic| with_reducible first
  | refine Xk.r_c ?_ | refine Xk.r_op ?_ | refine Xk.r_un ?_ | refine Xk.r_I0 ?_ | refine Xk.r_U ?_ | refine Xk.r_nil ?_ | refine Xk.r_cons ?_ | refine Xk.r_lst ?_ | refine Xk.r_tup ?_
  | refine Xk.r_call ?_ | refine Xk.r_callK ?_ | refine Xk.r_cb ?_ | refine Xk.r_ckw ?_ | refine Xk.r_sl ?_ | refine Xk.r_part ?_ | refine Xk.r_nopart ?_ | refine Xk.r_exi ?_ | refine Xk.r_exb ?_ | refine Xk.r_bm ?_ | refine Xk.r_bm0 ?_
  | refine Xk.r_if ?_ | refine Xk.r_andV ?_ | refine Xk.r_orV ?_ | refine Xk.r_notV ?_ | refine Xk.r_eqI ?_ | refine Xk.r_neI ?_ | refine Xk.r_eqS ?_ | refine Xk.r_neS ?_
  | refine Xk.r_test ?_ | refine Xk.r_tB ?_ | refine Xk.r_tand ?_ | refine Xk.r_tor ?_ | refine Xk.r_tnot ?_ | refine Xk.r_yes ?_ | refine Xk.r_itT ?_ | refine Xk.r_itF ?_ | refine Xk.r_notT ?_ | refine Xk.r_notF ?_
  | refine Xk.r_seq ?_ | refine Xk.r_next ?_ | refine Xk.r_asg ?_ | refine Xk.r_ret ?_ | refine Xk.r_drop ?_ | refine Xk.r_ifS ?_ | refine Xk.r_par ?_ | refine Xk.r_ex2 ?_ | refine Xk.r_brk ?_ | refine Xk.r_cont ?_ | refine Xk.r_ipI ?_ | refine Xk.r_for ?_
  | refine Xk.r_augS ?_ | refine Xk.r_sadd0 ?_ | refine Xk.r_iEnum ?_ | refine Xk.r_iList ?_ | refine Xk.r_iTup ?_ | refine Xk.r_iRng1 ?_ | refine Xk.r_iRng2 ?_ | refine Xk.r_iRng3 ?_ | refine Xk.r_iZip ?_ | refine Xk.r_lc ?_ | refine Xk.r_lrg ?_ | refine Xk.r_rg1 ?_ | refine Xk.r_rg2 ?_ | refine Xk.r_l3 ?_ | refine Xk.r_revL ?_ | refine Xk.r_exr ?_
  | refine Xk.r_name ?_ | refine Xk.r_gcons ?_ | refine Xk.r_gnil ?_ | refine Xk.r_gsub ?_ | refine Xk.r_gslc ?_)
local macro_rules | `(tactic| fail "ne") => `(tactic| first | assumption | (apply Ne.symm; assumption) | (exact L2.ne_of_none (by assumption) (by assumption)) | (apply Ne.symm; exact L2.ne_of_none (by assumption) (by assumption)))
/-- what stands at an address -/
local macro_rules | `(tactic| fail "hp") => `(tactic| with_reducible first
  | assumption | exact L2.upd_same
  | ((refine' Xk.upd_old ?np ?_); (case np => assumption); fail "hp")
  | ((refine' Xk.same_to ?hs ?_); (case hs => assumption); fail "hp")
  | ((refine' Xk.sx_to ?hs ?hn ?_); (case hs => assumption); (case hn => fail "ne"); fail "hp")
  | ((refine' Xk.upd_to ?hn ?_); (case hn => fail "ne"); fail "hp"))
local macro_rules | `(tactic| fail "sq") => `(tactic| ((with_reducible show L2.SqL _ _ _ _); first | (with_reducible assumption) | exact Xk.sq (by fail "hp") | (with_reducible exact L2.Same.seq (by assumption) (by assumption))))
local macro_rules | `(tactic| fail "sd") => `(tactic| first | assumption | omega | decide)
local macro_rules | `(tactic| fail "at") => `(tactic| first
  | (with_reducible exact Xk.at_0) | (with_reducible exact Xk.at_1) | (with_reducible exact Xk.at_2) | (with_reducible exact Xk.at_3)
  | ((with_reducible show L2.atI (List.set (_ :: _) _ _) _ = _); exact rfl))
local macro_rules | `(tactic| fail "ix") => `(tactic| ((with_reducible show L2.ixN (List.length (_ :: _)) _ = _); exact rfl))
local macro_rules | `(tactic| fail "two") => `(tactic| first
  | ((with_reducible refine' Xk.r_var ?hv ?_); (case hv => exact rfl))
  | ((with_reducible refine' Xk.r_aug ?hv ?_); (case hv => exact rfl))
  | ((with_reducible refine' Xk.r_ixL ?hv ?hw ?_); (case hv => fail "sq"); (case hw => fail "at"))
  | ((with_reducible refine' Xk.r_setL ?hv ?hw ?_); (case hv => fail "hp"); (case hw => fail "ix"))
  | ((with_reducible refine' Xk.r_slL ?hv ?_); (case hv => fail "sq"))
  | ((with_reducible refine' Xk.r_gtup ?hv ?hw ?_); (case hv => exact Xk.sqT (by fail "hp")); (case hw => exact rfl))
  | ((with_reducible refine' ⟨Xk.ty_list (K := _) (xs := _) ?hv, ?_⟩); (case hv => fail "sq"))
  | ((with_reducible refine' Xk.r_append ?hv ?hw ?_); (case hv => fail "hp"); (case hw => fail "sd"))
  | ((with_reducible refine' Xk.r_I (C := fun _ j => 0 < j) ?hv ?_); (case hv => (first | omega | (show (0 : Int) < _; omega) | decide)))
  | ((with_reducible refine' Xk.r_len ?hv ?_); (case hv => fail "sq"))
  | ((with_reducible refine' Xk.r_listOf ?hv ?_); (case hv => fail "sq"))
  | ((with_reducible refine' Xk.r_I (C := Xk.CPowW) ?hv ?_); (case hv => exact ⟨by decide, by decide⟩))
  | (with_reducible refine ⟨Xk.szL (by with_unfolding_all rfl), ?_⟩)
  | ((with_reducible refine' ⟨_, _, rfl, ?hv, ?_⟩); (case hv => ((with_reducible show L2.SqL _ _ _ _); fail "sq")))
  | ((with_reducible refine' ⟨⟨_, ?hv⟩, ?_⟩); (case hv => fail "sq"))
  | (with_reducible refine Or.inl ⟨_, rfl, ?_⟩) | (with_reducible refine Or.inr ⟨_, rfl, ?_⟩)
  | (with_reducible refine ⟨_, _, rfl, rfl, ?_⟩) | (with_reducible refine ⟨_, rfl, ?_⟩) | (with_reducible refine ⟨_, _, rfl, ?_⟩))
local macro_rules | `(tactic| fail "g") => `(tactic| repeat (first | fail "one" | fail "two"))

set_option Elab.async false
set_option linter.all false
set_option maxRecDepth 100000
namespace Xk
open PySem PySem.Spec PyProof.Rows L2
/-! ### slices by numbers -/
theorem cut_from {xs : List V} {z : Int} {a : Nat} (h : z = (a : Int)) : cutV xs (some z) none = xs.drop a := by
  subst h
  unfold cutV
  rw [show HT.sIx xs.length 0 (some (a : Int)) = min a xs.length from HT.sIx_nat xs.length 0 a, HT.sIx_none]
  by_cases q : a ≤ xs.length
  · rw [Nat.min_eq_left q]; exact List.take_of_length_le (by rw [List.length_drop]; omega)
  · rw [Nat.min_eq_right (by omega), List.drop_of_length_le (by omega), List.drop_of_length_le (by omega)]; simp
theorem cut_to {xs : List V} {z : Int} {b : Nat} (h : z = (b : Int)) : cutV xs none (some z) = xs.take b := by
  subst h
  unfold cutV
  rw [show HT.sIx xs.length xs.length (some (b : Int)) = min b xs.length from HT.sIx_nat xs.length xs.length b, HT.sIx_none]
  show (xs.take (min b xs.length - 0)) = _
  rw [Nat.sub_zero]
  by_cases q : b ≤ xs.length
  · rw [Nat.min_eq_left q]
  · rw [Nat.min_eq_right (by omega), List.take_of_length_le (by omega), List.take_of_length_le (by omega)]
theorem cut_mid {xs : List V} {z y : Int} {a b : Nat} (h : z = (a : Int)) (g : y = (b : Int)) (hb : b ≤ xs.length) : cutV xs (some z) (some y) = (xs.drop a).take (b - a) := by
  subst h; subst g
  unfold cutV
  rw [show HT.sIx xs.length 0 (some (a : Int)) = min a xs.length from HT.sIx_nat xs.length 0 a, show HT.sIx xs.length xs.length (some (b : Int)) = min b xs.length from HT.sIx_nat xs.length xs.length b, Nat.min_eq_left hb]
  by_cases q : a ≤ xs.length
  · rw [Nat.min_eq_left q]
  · rw [Nat.min_eq_right (by omega), show b - xs.length = 0 by omega, show b - a = 0 by omega]; rfl
theorem map_drop' {α β : Type} (f : α → β) (l : List α) (n : Nat) : (l.map f).drop n = (l.drop n).map f := by simp
theorem at_map {ns : List Int} {z : Int} {j : Nat} (e : z = (j : Int)) (h : j < ns.length) : atI (ns.map V.int) z = some (.int ns[j]) :=
  at_of e (by simp [h])
theorem ix_of {n j : Nat} {z : Int} (e : z = (j : Int)) (h : j < n) : ixN n z = some j := by
  subst e; unfold ixN; rw [if_pos (by omega), if_pos (by omega)]; simp
theorem map_set' (ns : List Int) (j : Nat) (x : Int) : (ns.map V.int).set j (V.int x) = (ns.set j x).map V.int := by simp
theorem map_snoc (ns : List Int) (x : Int) : ns.map V.int ++ [V.int x] = (ns ++ [x]).map V.int := by simp
theorem size_lt {n : Nat} (h : n < 16777216) : n < sizeLine := h
theorem size_le {n : Nat} (h : n ≤ 16777216) : n ≤ sizeLine := h

/-! ### comprehensions whose turns leave what stood -/
section
variable {J : It} {n : Nat} {G : Hp → Prop} {Y : Nat → Hp → V → Hp → Prop}
theorem forI (w : Walk J n G Y) {g : TG} {tb : TS} {nx : L2.St → Hp → Prop} {rt : VK} {σ : L2.St} {H : Hp} (Pv : Nat → L2.St → Hp → Prop) (h0 : Pv 0 σ H) (hG : ∀ i σ H, i ≤ n → Pv i σ H → G H)
    (hs : ∀ i x σ H H', i < n → Pv i σ H → Y i H x H' → g x σ H' fun σ2 H2 => tb ⟨Pv (i + 1), rt, nx, Pv (i + 1)⟩ σ2 H2) (hd : ∀ σ H, Pv n σ H → nx σ H) :
    ∃ W : Nat → Nat → L2.St → Hp → Prop, (∃ m, W 0 m σ H) ∧ ∀ i m σ H, W i m σ H →
      (J.stop i H ∧ nx σ H) ∨ (J.go i H ∧ ∃ N : L2.St → Hp → Prop, (∀ σ' H', N σ' H' → ∃ m', m' < m ∧ W (i + 1) m' σ' H') ∧ ∀ x H', J.yld i H x H' → g x σ H' fun σ2 H2 => tb ⟨N, rt, nx, N⟩ σ2 H2) :=
  for_it (D := ⟨nx, rt, fun _ _ => False, fun _ _ => False⟩) w Pv h0 hG hs hd
theorem forA {xs : List V} (w : Walk J xs.length G (YAt xs)) {g : TG} {tb : TS} {nx : L2.St → Hp → Prop} {rt : VK} {σ : L2.St} {H : Hp} (Pv : Nat → L2.St → Hp → Prop) (h0 : Pv 0 σ H) (hG : ∀ i σ H, i ≤ xs.length → Pv i σ H → G H)
    (hs : ∀ i σ H (hi : i < xs.length), Pv i σ H → g xs[i] σ H fun σ2 H2 => tb ⟨Pv (i + 1), rt, nx, Pv (i + 1)⟩ σ2 H2) (hd : ∀ σ H, Pv xs.length σ H → nx σ H) :
    ∃ W : Nat → Nat → L2.St → Hp → Prop, (∃ m, W 0 m σ H) ∧ ∀ i m σ H, W i m σ H →
      (J.stop i H ∧ nx σ H) ∨ (J.go i H ∧ ∃ N : L2.St → Hp → Prop, (∀ σ' H', N σ' H' → ∃ m', m' < m ∧ W (i + 1) m' σ' H') ∧ ∀ x H', J.yld i H x H' → g x σ H' fun σ2 H2 => tb ⟨N, rt, nx, N⟩ σ2 H2) :=
  forI w Pv h0 hG (fun i x σ H H' hi p y => by
    obtain ⟨rfl, e⟩ := y
    rw [List.getElem?_eq_getElem hi] at e
    cases e
    exact hs i σ H' hi p) hd
theorem forAI {ns : List Int} (w : Walk J (ns.map V.int).length G (YAt (ns.map V.int))) {g : TG} {tb : TS} {nx : L2.St → Hp → Prop} {rt : VK} {σ : L2.St} {H : Hp} (Pv : Nat → L2.St → Hp → Prop) (h0 : Pv 0 σ H) (hG : ∀ i σ H, i ≤ (ns.map V.int).length → Pv i σ H → G H)
    (hs : ∀ i σ H (hi : i < ns.length), Pv i σ H → g (.int ns[i]) σ H fun σ2 H2 => tb ⟨Pv (i + 1), rt, nx, Pv (i + 1)⟩ σ2 H2) (hd : ∀ σ H, Pv (ns.map V.int).length σ H → nx σ H) :
    ∃ W : Nat → Nat → L2.St → Hp → Prop, (∃ m, W 0 m σ H) ∧ ∀ i m σ H, W i m σ H →
      (J.stop i H ∧ nx σ H) ∨ (J.go i H ∧ ∃ N : L2.St → Hp → Prop, (∀ σ' H', N σ' H' → ∃ m', m' < m ∧ W (i + 1) m' σ' H') ∧ ∀ x H', J.yld i H x H' → g x σ H' fun σ2 H2 => tb ⟨N, rt, nx, N⟩ σ2 H2) :=
  forI w Pv h0 hG (fun i x σ H H' hi p y => by
    obtain ⟨rfl, e⟩ := y
    have hi' : i < ns.length := by simpa using hi
    rw [List.getElem?_map, List.getElem?_eq_getElem hi'] at e
    cases e
    exact hs i σ H' hi' p) hd
theorem forF {f : Nat → V} (w : Walk J n G (YFn f)) {g : TG} {tb : TS} {nx : L2.St → Hp → Prop} {rt : VK} {σ : L2.St} {H : Hp} (Pv : Nat → L2.St → Hp → Prop) (h0 : Pv 0 σ H) (hG : ∀ i σ H, i ≤ n → Pv i σ H → G H)
    (hs : ∀ i σ H, i < n → Pv i σ H → g (f i) σ H fun σ2 H2 => tb ⟨Pv (i + 1), rt, nx, Pv (i + 1)⟩ σ2 H2) (hd : ∀ σ H, Pv n σ H → nx σ H) :
    ∃ W : Nat → Nat → L2.St → Hp → Prop, (∃ m, W 0 m σ H) ∧ ∀ i m σ H, W i m σ H →
      (J.stop i H ∧ nx σ H) ∨ (J.go i H ∧ ∃ N : L2.St → Hp → Prop, (∀ σ' H', N σ' H' → ∃ m', m' < m ∧ W (i + 1) m' σ' H') ∧ ∀ x H', J.yld i H x H' → g x σ H' fun σ2 H2 => tb ⟨N, rt, nx, N⟩ σ2 H2) :=
  forI w Pv h0 hG (fun i x σ H H' hi p y => by
    obtain ⟨rfl, rfl⟩ := y
    exact hs i σ H' hi p) hd
theorem forP {f1 f2 : Nat → Option V} (w : Walk J n G (YPair f1 f2)) {g : TG} {tb : TS} {nx : L2.St → Hp → Prop} {rt : VK} {σ : L2.St} {H : Hp} (Pv : Nat → L2.St → Hp → Prop) (h0 : Pv 0 σ H) (hG : ∀ i σ H, i ≤ n → Pv i σ H → G H)
    (hs : ∀ i σ H T x y, i < n → Pv i σ H → f1 i = some x → f2 i = some y → H T = none → g (.ref T) σ (upd H T (.tup [x, y])) fun σ2 H2 => tb ⟨Pv (i + 1), rt, nx, Pv (i + 1)⟩ σ2 H2) (hd : ∀ σ H, Pv n σ H → nx σ H) :
    ∃ W : Nat → Nat → L2.St → Hp → Prop, (∃ m, W 0 m σ H) ∧ ∀ i m σ H, W i m σ H →
      (J.stop i H ∧ nx σ H) ∨ (J.go i H ∧ ∃ N : L2.St → Hp → Prop, (∀ σ' H', N σ' H' → ∃ m', m' < m ∧ W (i + 1) m' σ' H') ∧ ∀ x H', J.yld i H x H' → g x σ H' fun σ2 H2 => tb ⟨N, rt, nx, N⟩ σ2 H2) :=
  forI w Pv h0 hG (fun i x σ H H' hi p y => by
    obtain ⟨T, x, y, rfl, nT, rfl, e1, e2⟩ := y
    exact hs i σ H T x y hi p e1 e2 nT) hd
theorem forEI {ns : List Int} (w : Walk J (ns.map V.int).length G (YPair (fun i => some (.int (i : Nat))) (fun i => (ns.map V.int)[i]?))) {g : TG} {tb : TS} {nx : L2.St → Hp → Prop} {rt : VK} {σ : L2.St} {H : Hp} (Pv : Nat → L2.St → Hp → Prop) (h0 : Pv 0 σ H) (hG : ∀ i σ H, i ≤ (ns.map V.int).length → Pv i σ H → G H)
    (hs : ∀ i σ H T (hi : i < ns.length), Pv i σ H → H T = none → g (.ref T) σ (upd H T (.tup [.int (i : Nat), .int ns[i]])) fun σ2 H2 => tb ⟨Pv (i + 1), rt, nx, Pv (i + 1)⟩ σ2 H2) (hd : ∀ σ H, Pv (ns.map V.int).length σ H → nx σ H) :
    ∃ W : Nat → Nat → L2.St → Hp → Prop, (∃ m, W 0 m σ H) ∧ ∀ i m σ H, W i m σ H →
      (J.stop i H ∧ nx σ H) ∨ (J.go i H ∧ ∃ N : L2.St → Hp → Prop, (∀ σ' H', N σ' H' → ∃ m', m' < m ∧ W (i + 1) m' σ' H') ∧ ∀ x H', J.yld i H x H' → g x σ H' fun σ2 H2 => tb ⟨N, rt, nx, N⟩ σ2 H2) :=
  forI w Pv h0 hG (fun i x σ H H' hi p y => by
    obtain ⟨T, x, y, rfl, nT, rfl, e1, e2⟩ := y
    have hi' : i < ns.length := by simpa using hi
    cases e1
    simp only [List.getElem?_map, List.getElem?_eq_getElem hi'] at e2
    cases e2
    exact hs i σ H T hi' p nT) hd
theorem lc_same (w : Walk J n G Y) {g : TG} {tt : TT} {te : TE} {vs : List Nat} {σ : L2.St} {H0 H1 : Hp} {D : Addr} {Qd : Hp → Prop} (acc : Nat → List V) (hD : H1 D = none) (h01 : Same H0 H1) (a0 : acc 0 = [])
    (hG : ∀ H, Same H0 H → G H)
    (hs : ∀ i x H H', i < n → Same H0 H ∧ H D = some (.lst (acc i)) → Y i H x H' → g x (wipe σ vs) H' fun σ2 H2 => wipe σ2 vs = wipe σ vs ∧ tt σ2 H2 fun b H3 =>
      if b = true then te σ2 H3 fun y H4 => ∃ l, H4 D = some (.lst l) ∧ l.length < sizeLine ∧ Same H0 (upd H4 D (.lst (l ++ [y]))) ∧ (upd H4 D (.lst (l ++ [y]))) D = some (.lst (acc (i + 1))) else Same H0 H3 ∧ H3 D = some (.lst (acc (i + 1))))
    (hd : ∀ H, Same H0 H → H D = some (.lst (acc n)) → Qd H) :
    ∃ W : Nat → Nat → Hp → Prop, (∃ m, W 0 m (upd H1 D (.lst []))) ∧ ∀ i m H, W i m H →
      (J.stop i H ∧ Qd H) ∨ (J.go i H ∧ ∃ Nx : Hp → Prop, (∀ H', Nx H' → ∃ m', m' < m ∧ W (i + 1) m' H') ∧ ∀ x H', J.yld i H x H' → g x (wipe σ vs) H' fun σ2 H2 => wipe σ2 vs = wipe σ vs ∧ tt σ2 H2 fun b H3 =>
        if b = true then te σ2 H3 fun y H4 => ∃ acc, H4 D = some (.lst acc) ∧ acc.length < sizeLine ∧ Nx (upd H4 D (.lst (acc ++ [y]))) else Nx H3) :=
  lc_it w (fun i H => Same H0 H ∧ H D = some (.lst (acc i))) ⟨same_old h01 (h01.free hD), by rw [a0]; exact upd_same⟩ (fun i H _ p => hG H p.1) hs (fun H p => hd H p.1 p.2)
theorem lc_sameAI {ns : List Int} (w : Walk J (ns.map V.int).length G (YAt (ns.map V.int))) {g : TG} {tt : TT} {te : TE} {vs : List Nat} {σ : L2.St} {H0 H1 : Hp} {D : Addr} {Qd : Hp → Prop} (acc : Nat → List V) (hD : H1 D = none) (h01 : Same H0 H1) (a0 : acc 0 = [])
    (hG : ∀ H, Same H0 H → G H)
    (hs : ∀ i H (hi : i < ns.length), Same H0 H ∧ H D = some (.lst (acc i)) → g (.int ns[i]) (wipe σ vs) H fun σ2 H2 => wipe σ2 vs = wipe σ vs ∧ tt σ2 H2 fun b H3 =>
      if b = true then te σ2 H3 fun y H4 => ∃ l, H4 D = some (.lst l) ∧ l.length < sizeLine ∧ Same H0 (upd H4 D (.lst (l ++ [y]))) ∧ (upd H4 D (.lst (l ++ [y]))) D = some (.lst (acc (i + 1))) else Same H0 H3 ∧ H3 D = some (.lst (acc (i + 1))))
    (hd : ∀ H, Same H0 H → H D = some (.lst (acc ns.length)) → Qd H) :
    ∃ W : Nat → Nat → Hp → Prop, (∃ m, W 0 m (upd H1 D (.lst []))) ∧ ∀ i m H, W i m H →
      (J.stop i H ∧ Qd H) ∨ (J.go i H ∧ ∃ Nx : Hp → Prop, (∀ H', Nx H' → ∃ m', m' < m ∧ W (i + 1) m' H') ∧ ∀ x H', J.yld i H x H' → g x (wipe σ vs) H' fun σ2 H2 => wipe σ2 vs = wipe σ vs ∧ tt σ2 H2 fun b H3 =>
        if b = true then te σ2 H3 fun y H4 => ∃ acc, H4 D = some (.lst acc) ∧ acc.length < sizeLine ∧ Nx (upd H4 D (.lst (acc ++ [y]))) else Nx H3) :=
  lc_same w acc hD h01 a0 hG (fun i x H H' hi p y => by
    obtain ⟨rfl, e⟩ := y
    have hi' : i < ns.length := by simpa using hi
    rw [List.getElem?_map, List.getElem?_eq_getElem hi'] at e
    cases e
    exact hs i H' hi' p) (fun H p q => hd H p (by simpa using q))
theorem lc_sameEI {ns : List Int} (w : Walk J (ns.map V.int).length G (YPair (fun i => some (.int (i : Nat))) (fun i => (ns.map V.int)[i]?))) {g : TG} {tt : TT} {te : TE} {vs : List Nat} {σ : L2.St} {H0 H1 : Hp} {D : Addr} {Qd : Hp → Prop} (acc : Nat → List V) (hD : H1 D = none) (h01 : Same H0 H1) (a0 : acc 0 = [])
    (hG : ∀ H, Same H0 H → G H)
    (hs : ∀ i H T (hi : i < ns.length), Same H0 H ∧ H D = some (.lst (acc i)) → H T = none → g (.ref T) (wipe σ vs) (upd H T (.tup [.int (i : Nat), .int ns[i]])) fun σ2 H2 => wipe σ2 vs = wipe σ vs ∧ tt σ2 H2 fun b H3 =>
      if b = true then te σ2 H3 fun y H4 => ∃ l, H4 D = some (.lst l) ∧ l.length < sizeLine ∧ Same H0 (upd H4 D (.lst (l ++ [y]))) ∧ (upd H4 D (.lst (l ++ [y]))) D = some (.lst (acc (i + 1))) else Same H0 H3 ∧ H3 D = some (.lst (acc (i + 1))))
    (hd : ∀ H, Same H0 H → H D = some (.lst (acc ns.length)) → Qd H) :
    ∃ W : Nat → Nat → Hp → Prop, (∃ m, W 0 m (upd H1 D (.lst []))) ∧ ∀ i m H, W i m H →
      (J.stop i H ∧ Qd H) ∨ (J.go i H ∧ ∃ Nx : Hp → Prop, (∀ H', Nx H' → ∃ m', m' < m ∧ W (i + 1) m' H') ∧ ∀ x H', J.yld i H x H' → g x (wipe σ vs) H' fun σ2 H2 => wipe σ2 vs = wipe σ vs ∧ tt σ2 H2 fun b H3 =>
        if b = true then te σ2 H3 fun y H4 => ∃ acc, H4 D = some (.lst acc) ∧ acc.length < sizeLine ∧ Nx (upd H4 D (.lst (acc ++ [y]))) else Nx H3) :=
  lc_same w acc hD h01 a0 hG (fun i x H H' hi p y => by
    obtain ⟨T, x, y, rfl, nT, rfl, e1, e2⟩ := y
    have hi' : i < ns.length := by simpa using hi
    cases e1
    simp only [List.getElem?_map, List.getElem?_eq_getElem hi'] at e2
    cases e2
    exact hs i H T hi' p nT) (fun H p q => hd H p (by simpa using q))
theorem lc_sameF {n : Nat} {f : Nat → V} (w : Walk J n G (YFn f)) {g : TG} {tt : TT} {te : TE} {vs : List Nat} {σ : L2.St} {H0 H1 : Hp} {D : Addr} {Qd : Hp → Prop} (acc : Nat → List V) (hD : H1 D = none) (h01 : Same H0 H1) (a0 : acc 0 = [])
    (hG : ∀ H, Same H0 H → G H)
    (hs : ∀ i H, i < n → Same H0 H ∧ H D = some (.lst (acc i)) → g (f i) (wipe σ vs) H fun σ2 H2 => wipe σ2 vs = wipe σ vs ∧ tt σ2 H2 fun b H3 =>
      if b = true then te σ2 H3 fun y H4 => ∃ l, H4 D = some (.lst l) ∧ l.length < sizeLine ∧ Same H0 (upd H4 D (.lst (l ++ [y]))) ∧ (upd H4 D (.lst (l ++ [y]))) D = some (.lst (acc (i + 1))) else Same H0 H3 ∧ H3 D = some (.lst (acc (i + 1))))
    (hd : ∀ H, Same H0 H → H D = some (.lst (acc n)) → Qd H) :
    ∃ W : Nat → Nat → Hp → Prop, (∃ m, W 0 m (upd H1 D (.lst []))) ∧ ∀ i m H, W i m H →
      (J.stop i H ∧ Qd H) ∨ (J.go i H ∧ ∃ Nx : Hp → Prop, (∀ H', Nx H' → ∃ m', m' < m ∧ W (i + 1) m' H') ∧ ∀ x H', J.yld i H x H' → g x (wipe σ vs) H' fun σ2 H2 => wipe σ2 vs = wipe σ vs ∧ tt σ2 H2 fun b H3 =>
        if b = true then te σ2 H3 fun y H4 => ∃ acc, H4 D = some (.lst acc) ∧ acc.length < sizeLine ∧ Nx (upd H4 D (.lst (acc ++ [y]))) else Nx H3) :=
  lc_same w acc hD h01 a0 hG (fun i x H H' hi p y => by
    obtain ⟨rfl, rfl⟩ := y
    exact hs i H' hi p) hd
theorem lc_add {H0 H H4 : Hp} {D : Addr} {a a' : List V} {y : V} (p : Same H0 H ∧ H D = some (.lst a)) (s : Same H H4) (hD : H0 D = none) (e : a' = a ++ [y]) (hz : a.length < sizeLine) :
    ∃ l, H4 D = some (.lst l) ∧ l.length < sizeLine ∧ Same H0 (upd H4 D (.lst (l ++ [y]))) ∧ (upd H4 D (.lst (l ++ [y]))) D = some (.lst a') :=
  ⟨a, s _ _ p.2, hz, same_old (p.1.trans s) hD, by rw [e]; exact upd_same⟩
theorem lc_skip {H0 H H4 : Hp} {D : Addr} {a a' : List V} (p : Same H0 H ∧ H D = some (.lst a)) (s : Same H H4) (e : a' = a) : Same H0 H4 ∧ H4 D = some (.lst a') := ⟨p.1.trans s, by rw [e]; exact s _ _ p.2⟩
theorem take_one {α : Type} {l : List α} {i : Nat} (hi : i < l.length) : l.take (i + 1) = l.take i ++ [l[i]] := by rw [List.take_add_one, List.getElem?_eq_getElem hi]; rfl
theorem acc_filtT {l : List Int} {f : Int → Bool} {i : Nat} (hi : i < l.length) (h : f l[i] = true) : ((l.take (i + 1)).filter f).map V.int = ((l.take i).filter f).map V.int ++ [.int l[i]] := by
  rw [take_one hi, List.filter_append, List.map_append]; simp [h]
theorem acc_filtF {l : List Int} {f : Int → Bool} {i : Nat} (hi : i < l.length) (h : f l[i] = false) : ((l.take (i + 1)).filter f).map V.int = ((l.take i).filter f).map V.int := by
  rw [take_one hi, List.filter_append, List.map_append]; simp [h]
theorem filt_len {l : List Int} {f : Int → Bool} {i : Nat} (h : l.length ≤ 1000000) : (((l.take i).filter f).map V.int).length < sizeLine := by
  rw [List.length_map]
  refine Nat.lt_of_le_of_lt (Nat.le_trans (List.length_filter_le _ _) (List.length_take_le' _ _)) (size_lt (by omega))
end
theorem erase_map {α β : Type} (f : α → β) : ∀ (l : List α) (j : Nat), (l.map f).eraseIdx j = (l.eraseIdx j).map f
  | [], _ => rfl
  | x :: r, 0 => rfl
  | x :: r, j + 1 => congrArg (f x :: ·) (erase_map f r j)
theorem erase_perm {α : Type} : ∀ (l : List α) (j : Nat) (h : j < l.length), (l[j] :: l.eraseIdx j).Perm l
  | x :: r, 0, _ => List.Perm.refl _
  | x :: r, j + 1, h => (List.Perm.swap x (r[j]'(Nat.lt_of_succ_lt_succ h)) (r.eraseIdx j)).trans ((erase_perm r j (Nat.lt_of_succ_lt_succ h)).cons x)
end Xk

set_option Elab.async false
set_option linter.all false
set_option maxRecDepth 100000
namespace Xk
open PySem PySem.Spec PyProof.Rows L2
/-! ### data -/
abbrev dI (ns : List Int) : PyData := .list (ns.map PyData.int)
section
variable {K : PySem.W.Frag} {H H' : Hp}
theorem dp_ints : ∀ ns : List Int, DpAll K H (ns.map V.int) (ns.map PyData.int)
  | [] => .nil
  | i :: r => .cons (.int i) (dp_ints r)
theorem dp_lst {a : Addr} {ns : List Int} (h : SqL K H a (ns.map V.int)) : Dp K H (.ref a) (dI ns) := .lst h (dp_ints ns)
theorem eqv_ints : ∀ ns ms : List Int, PyData.eqvAll (ns.map PyData.int) (ms.map PyData.int) = decide (ns = ms)
  | [], [] => rfl
  | [], _ :: _ => rfl
  | _ :: _, [] => rfl
  | i :: r, j :: t => by
    show ((i == j) && PyData.eqvAll (r.map PyData.int) (t.map PyData.int)) = _
    rw [eqv_ints r t]
    by_cases e : i = j
    · subst e; by_cases f : r = t
      · subst f; simp
      · simp [f]
    · simp [e]
theorem eqv_dI (ns ms : List Int) : PyData.eqv (dI ns) (dI ms) = decide (ns = ms) := eqv_ints ns ms
theorem lay_ints : ∀ ns : List Int, PyData.canLayAll0 (ns.map PyData.int) = true
  | [] => rfl
  | _ :: r => lay_ints r
theorem depth_ints : ∀ ns : List Int, PyData.depthAll (ns.map PyData.int) = 0
  | [] => rfl
  | i :: r => by show max 0 (PyData.depthAll (r.map PyData.int)) = 0; rw [depth_ints r]; rfl
theorem shaped_dI (ns : List Int) : SeqAt.shaped (dI ns) = true := by
  unfold SeqAt.shaped
  rw [Bool.and_eq_true]
  refine ⟨lay_ints ns, ?_⟩
  show decide (PyData.depthAll (ns.map PyData.int) + 1 ≤ 64) = true
  rw [depth_ints]; rfl
/-- == of two lists of ints -/
theorem r_eqL {a b : Addr} {ns ms : List Int} {Q : VK} (h : SqL K H a (ns.map V.int)) (g : SqL K H b (ms.map V.int)) (q : Q (.bl (decide (ns = ms))) H) : rEqD K (.ref a) (.ref b) H Q :=
  ⟨_, _, dp_lst h, dp_lst g, shaped_dI ns, shaped_dI ms, by rw [eqv_dI]; exact q⟩
theorem r_neL {a b : Addr} {ns ms : List Int} {Q : VK} (h : SqL K H a (ns.map V.int)) (g : SqL K H b (ms.map V.int)) (q : Q (.bl (!decide (ns = ms))) H) : rNeD K (.ref a) (.ref b) H Q :=
  ⟨_, _, dp_lst h, dp_lst g, shaped_dI ns, shaped_dI ms, by rw [eqv_dI]; exact q⟩
end

/-! ### how long a repr may be -/
def Sh (b : Nat) (d : PyData) : Prop := d.showable = true ∧ d.shown.length ≤ b
theorem Sh.mono {b c : Nat} {d : PyData} (h : Sh b d) (e : b ≤ c) : Sh c d := ⟨h.1, Nat.le_trans h.2 e⟩
theorem len_app (a b : Str) : (a ++ b).length = a.length + b.length := by
  show (a.cps ++ b.cps).size = _
  exact Array.size_append
theorem from_le : ∀ (ts : List Str) (k b : Nat) (acc : Str), (∀ t ∈ ts, t.length ≤ b) → (textFrom k acc ts).length ≤ acc.length + ts.length * (b + 2)
  | [], _, _, _, _ => by simp [textFrom]
  | t :: r, k, b, acc, h => by
    have ht := h t List.mem_cons_self
    have ih := fun acc' => from_le r (k + 1) b acc' fun t ht => h t (List.mem_cons_of_mem _ ht)
    unfold textFrom
    refine Nat.le_trans (ih _) ?_
    rw [List.length_cons, Nat.succ_mul]
    have e2 : (Str.ofString ", ").length = 2 := rfl
    have e0 : (Str.ofString "").length = 0 := rfl
    generalize r.length * (b + 2) = R
    split <;> simp only [len_app] <;> omega
theorem all_sh {b : Nat} : ∀ {ds : List PyData}, (∀ d ∈ ds, Sh b d) → PyData.showableAll ds = true ∧ ∀ t ∈ PyData.shownAll ds, t.length ≤ b
  | [], _ => ⟨rfl, fun t h => nomatch h⟩
  | d :: r, h => by
    have h1 := h d List.mem_cons_self
    have ih := all_sh fun e he => h e (List.mem_cons_of_mem _ he)
    refine ⟨?_, fun t ht => ?_⟩
    · show (d.showable && PyData.showableAll r) = true
      rw [h1.1, ih.1]; rfl
    · rcases List.mem_cons.mp (show t ∈ d.shown :: PyData.shownAll r from ht) with e | e
      · subst e; exact h1.2
      · exact ih.2 t e
theorem shown_len : ∀ ds : List PyData, (PyData.shownAll ds).length = ds.length
  | [] => rfl
  | _ :: r => congrArg (· + 1) (shown_len r)
theorem Sh.list {b : Nat} {ds : List PyData} (h : ∀ d ∈ ds, Sh b d) : Sh (ds.length * (b + 2) + 2) (.list ds) := by
  obtain ⟨h1, h2⟩ := all_sh h
  refine ⟨h1, ?_⟩
  show (listText (PyData.shownAll ds)).length ≤ _
  unfold listText
  rw [len_app]
  have := from_le (PyData.shownAll ds) 0 b "[" h2
  rw [shown_len] at this
  have e1 : ("[" : Str).length = 1 := rfl
  have e2 : ("]" : Str).length = 1 := rfl
  omega
theorem piled_le : ∀ (ts : List Str) (b : Nat), (∀ t ∈ ts, t.length ≤ b) → piled ts ≤ ts.length * (b + 2)
  | [], _, _ => by simp [piled]
  | t :: r, b, h => by
    have h1 := h t List.mem_cons_self
    have ih := piled_le r b fun e he => h e (List.mem_cons_of_mem _ he)
    have e : piled (t :: r) = t.length + 2 + piled r := by simp [piled]
    rw [e, List.length_cons, Nat.succ_mul]
    omega
theorem Sh.tuple {b : Nat} {ds : List PyData} (h : ∀ d ∈ ds, Sh b d) : Sh (ds.length * (b + 2) + 3) (.tuple ds) := by
  obtain ⟨h1, h2⟩ := all_sh h
  refine ⟨h1, ?_⟩
  show (tupleText (PyData.shownAll ds)).length ≤ _
  unfold tupleText
  rw [len_app, len_app]
  have hp := piled_le (PyData.shownAll ds) b h2
  rw [shown_len] at hp
  have e1 : ("(" : Str).length = 1 := rfl
  have e2 : (Str.ofString ",)").length = 2 := rfl
  have e3 : (Str.ofString ")").length = 1 := rfl
  by_cases q : PyData.shownAll ds = []
  · rw [q]
    have e4 : (Str.join ", " []).length = 0 := rfl
    split <;> omega
  · have := join_length_add _ q
    split <;> omega
theorem Sh.bool {b : Bool} : Sh 5 (.bool b) := ⟨rfl, by cases b <;> decide⟩
theorem Sh.none : Sh 4 .none := ⟨rfl, by decide⟩
theorem Sh.int {i : Int} {k : Nat} (hk : 0 < k) (h : i.natAbs < 10 ^ k) (h9 : k ≤ 500) : Sh (k + 1) (.int i) := by
  refine ⟨?_, ?_⟩
  · show decide (i.natAbs.log2 < 1920) = true
    rw [decide_eq_true_eq]
    by_cases z : i.natAbs = 0
    · rw [z]; decide
    · refine (Nat.log2_lt z).mpr (Nat.lt_trans h (Nat.lt_of_le_of_lt (Nat.pow_le_pow_right (by decide) h9) (by decide +kernel)))
  · show (Str.ofString (toString i)).length ≤ k + 1
    match i, h with
    | .ofNat n, h => exact Nat.le_succ_of_le (PyProof.Rows.toString_length_le (v := (n : Int)) (by omega) hk (by
        have h' : n < 10 ^ k := h
        have : ((n : Nat) : Int) < ((10 ^ k : Nat) : Int) := by omega
        simpa using this))
    | .negSucc n, h =>
      have h' : n + 1 < 10 ^ k := h
      have := PyProof.Rows.toString_length_le (v := ((n + 1 : Nat) : Int)) (by omega) hk (by
        have : ((n + 1 : Nat) : Int) < ((10 ^ k : Nat) : Int) := by omega
        simpa using this)
      rw [PyProof.Rows.ofString_length, String.length_toList] at this
      rw [PyProof.Rows.ofString_length, String.length_toList]
      show ("-" ++ toString (n + 1)).length ≤ k + 1
      rw [String.length_append]
      have e : ("-" : String).length = 1 := rfl
      have e2 : (toString ((n + 1 : Nat) : Int)) = toString (n + 1) := rfl
      rw [e2] at this
      omega
theorem Sh.ints {ns : List Int} {k : Nat} (hk : 0 < k) (h9 : k ≤ 500) (h : ∀ i ∈ ns, i.natAbs < 10 ^ k) : Sh (ns.length * (k + 3) + 2) (dI ns) := by
  have := Sh.list (b := k + 1) (ds := ns.map PyData.int) fun d hd => by
    obtain ⟨i, hi, rfl⟩ := List.mem_map.mp hd
    exact Sh.int hk (h i hi) h9
  rw [List.length_map] at this
  exact this
/-- repr(a list), in a reading -/
theorem r_repr {K : PySem.W.Frag} {H : Hp} {a : Addr} {d : PyData} {Q : VK} (h : Dp K H (.ref a) d) (hd : d.depth ≤ 60) {b : Nat} (s : Sh b d) (hb : b ≤ 16777216) (q : Q (.str d.shown) H) : rReprD K [.ref a] H Q :=
  ⟨a, d, rfl, h, s.1, hd, Nat.le_trans s.2 hb, q⟩
theorem depth_dI (ns : List Int) : (dI ns).depth ≤ 60 := by show PyData.depthAll (ns.map PyData.int) + 1 ≤ 60; rw [depth_ints]; decide
end Xk

set_option Elab.async false
set_option linter.all false
set_option maxRecDepth 100000
namespace Xk
open PySem PySem.Spec PyProof.Rows L2
/-! ### isinstance, is None, truth values compared -/
section
variable {X : Cx} (K : PySem.W.Frag)
theorem ix_seqK (hK : X.K = K := by rfl) : IxR X (rIx K) := hK ▸ ix_seq
theorem pg_unlK {es : List Expr} {g : TGs} {k : Nat} {pos : Pos} (n : Nat) (hc : X.calm = true) (h : PGs X es g) (hn : (assignEach es X.env).length = n := by rfl) (hst : (assignEach es X.env).findIdx? (·.1) = none := by rfl) (hK : X.K = K := by rfl) : PG X (.Tuple es k pos) (gUnl K n g) := hK ▸ pg_unl hc h hn hst
/-- x in xs, data of few layers -/
def rInE (K : PySem.W.Frag) : R2 := fun x y H Q => ∃ d ds, Dp K H x d ∧ Dp K H y (.list ds) ∧ SeqAt.shaped d = true ∧ SeqAt.shaped (.list ds) = true ∧ d.depth ≤ 60 ∧ Q (.bl (ds.any fun z => PyData.eqv z d)) H
theorem op_inE (hu : X.A.units + 64 < cLine) (hK : X.K = K := by rfl) : OpR X (compareOp .In) (rInE K) := by
  subst hK
  intro pins s σ H x y v u Q I rx ry h
  obtain ⟨d, ds, hd, he, sd, se, dd, q⟩ := h
  obtain ⟨as, r1⟩ := Dp.reads I d x v hd rx
  obtain ⟨bs, r2⟩ := Dp.reads I (.list ds) y u he ry
  refine SeqAt.in_list_reads r2 r1 (SeqAt.canLay_of_shaped se) (SeqAt.canLay_of_shaped sd) ?_ ⟨.bl _, H, I, rfl, q⟩
  have := Nat.min_le_right (PyData.depthAll ds) d.depth
  omega
theorem isiK (hK : X.K = K := by rfl) : CallR X (.builtin "isinstance") (rIsi K) := hK ▸ call_isi
end
section
variable {K : PySem.W.Frag} {H H' : Hp} {Q : VK} {x : V} {T t : String} {r : Bool}
theorem r_isi (ty : TyX K H x (.type t)) (e : kitB t T = some r) (q : Q (.bl r) H) : rIsi K [x, .ty T] H Q := ⟨x, .ty T, .type t, .type T, r, rfl, .ty T, ty, kit_ty e, q⟩
theorem tyx_list {a : Addr} {xs : List V} (h : SqL K H a xs) : TyX K H (.ref a) (.type "list") := by
  rcases h with (h | ⟨o, h⟩) | ⟨o, its, n, h, c, _⟩
  · exact .base (.lst h)
  · exact .base (.frz h)
  · exact .kList h c
theorem tyx_tup {a : Addr} {xs : List V} (h : SqT K H a xs) : TyX K H (.ref a) (.type "tuple") := by
  rcases h with (h | ⟨o, h⟩) | ⟨o, its, n, h, c, _⟩
  · exact .base (.tup h)
  · exact .fTuple h
  · exact .kTuple h c
theorem r_isN {A : Prop} (q : A) : V.non = V.non ∧ A := ⟨rfl, q⟩
theorem r_neB {a b : Bool} (q : Q (.bl (!decide (a = b))) H) : rNe (.bl a) (.bl b) H Q := by
  refine ⟨rfl, ?_⟩
  have e : decide (V.bl a = V.bl b) = decide (a = b) := by
    by_cases h : a = b
    · subst h; simp
    · rw [decide_eq_false h, decide_eq_false]; intro z; cases z; exact h rfl
  rw [e]; exact q
theorem r_eqB {a b : Bool} (q : Q (.bl (decide (a = b))) H) : rEq (.bl a) (.bl b) H Q := by
  refine ⟨rfl, ?_⟩
  have e : decide (V.bl a = V.bl b) = decide (a = b) := by
    by_cases h : a = b
    · subst h; simp
    · rw [decide_eq_false h, decide_eq_false]; intro z; cases z; exact h rfl
  rw [e]; exact q
theorem r_iRev {tA : TA} {σ : L2.St} {R : L2.It → Hp → Prop} (h : tA σ H fun vs H1 => ∃ a xs, vs = [.ref a] ∧ SqL K H1 a xs ∧ R (Itv K a xs.length) H1) : iRev K tA σ H R := h
theorem r_insert {l : Addr} {xs : List V} {i : Int} {y : V} (h : H l = some (.lst xs)) (hz : xs.length < sizeLine) (h0 : 0 ≤ i) (h1 : i < 2 ^ 63) (q : Q .non (upd H l (.lst (xs.take i.toNat ++ [y] ++ xs.drop i.toNat)))) :
    ∃ (l' : Addr) (xs : List V) (i' : Int) (y' : V), V.ref l = .ref l' ∧ [V.int i, y] = [.int i', y'] ∧ H l' = some (.lst xs) ∧ xs.length < sizeLine ∧ 0 ≤ i' ∧ i' < 2 ^ 63 ∧ Q .non (upd H l' (.lst (xs.take i'.toNat ++ [y'] ++ xs.drop i'.toNat))) := ⟨l, xs, i, y, rfl, rfl, h, hz, h0, h1, q⟩
theorem r_all {a : Addr} {bs : List Bool} (h : SqL K H a (bs.map V.bl)) (q : Q (.bl (bs.all id)) H) : rAll K [.ref a] H Q := ⟨a, bs, rfl, h, q⟩
theorem inv_ints (x : Int) (l : List Int) : inV (.int x) (l.map V.int) = decide (x ∈ l) := by
  unfold inV
  rw [List.any_map]
  by_cases hm : x ∈ l
  · rw [decide_eq_true hm, List.any_eq_true]
    exact ⟨_, hm, by show (_ == _) = true; simp⟩
  · rw [decide_eq_false hm, List.any_eq_false]
    intro y hy
    show ¬ (y == x) = true
    intro e
    exact hm (eq_of_beq e ▸ hy)
theorem r_gunl {gs : TGs} {σ : L2.St} {Qs : L2.St → Hp → Prop} {p : Addr} {xs : List V} {n : Nat} (h : SqL K H p xs) (hl : xs.length = n) (q : gs xs σ H Qs) : gUnl K n gs (.ref p) σ H Qs := ⟨p, xs, rfl, h, hl, q⟩
theorem r_lenT {p : Addr} {xs : List V} (h : SqT K H p xs) (q : Q (.int xs.length) H) : Xk.rLen K [.ref p] H Q := ⟨p, xs, rfl, .inr h, q⟩
theorem pow5 {i : Int} {n : Nat} {j : Int} (h : i.natAbs < 2 ^ n) (h0 : 0 ≤ j) (hj : j ≤ 5) (hn : n ≤ 20000000) : CPowW i j := by
  refine ⟨h0, ?_⟩
  have h1 := bits_le h
  have : (Builtin.Int.intBits i : Int) * j ≤ 20000000 * 5 := by
    refine Int.mul_le_mul ?_ hj h0 (by omega)
    omega
  refine Int.le_trans this (by decide)
theorem r_par3 {tA : TA} {σ : L2.St} {nx bk ct : L2.St → Hp → Prop} {rt : VK} {i j l : Nat} (h : tA σ H fun vs H1 => ∃ x y z, vs = [x, y, z] ∧ nx (((σ.set i (some x)).set j (some y)).set l (some z)) H1) : tPar3 i j l tA ⟨nx, rt, bk, ct⟩ σ H := h
theorem r_ex3 {f : V → V → V → Prop} {x y z : V} (h : f x y z) : ∃ u v w, [x, y, z] = [u, v, w] ∧ f u v w := ⟨x, y, z, rfl, h⟩
theorem r_ixQL {p : Addr} {xs : List V} {i : Int} {v : V} (h : SqL K H p xs) (ha : atI xs i = some v) (q : Q v H) : rIx K (.ref p) (.int i) H Q := .inl ⟨p, xs, i, v, rfl, rfl, h, ha, q⟩
theorem r_ixQT {p : Addr} {xs : List V} {i : Int} {v : V} (h : SqT K H p xs) (ha : atI xs i = some v) (q : Q v H) : rIx K (.ref p) (.int i) H Q := .inr (.inl ⟨p, xs, i, v, rfl, rfl, h, ha, q⟩)
theorem r_reverse {p : Addr} {xs : List V} (h : H p = some (.lst xs)) (q : Q .non (upd H p (.lst xs.reverse))) : rReverse (.ref p) [] H Q := ⟨p, xs, rfl, rfl, h, q⟩
theorem r_extend {p b : Addr} {xs zs : List V} (h : H p = some (.lst xs)) (g : H b = some (.lst zs)) (hz : xs.length + zs.length ≤ sizeLine) (q : Q .non (upd H p (.lst (xs ++ zs)))) : rExtend (.ref p) [.ref b] H Q := ⟨p, b, xs, zs, rfl, rfl, h, g, hz, q⟩
theorem r_cat {p b : Addr} {xs ys : List V} (h : H p = some (.lst xs)) (g : H b = some (.lst ys)) (hz : xs.length + ys.length ≤ sizeLine) (q : ∀ n, H n = none → Q (.ref n) (upd H n (.lst (xs ++ ys)))) : rCat (.ref p) (.ref b) H Q := ⟨p, b, xs, ys, rfl, rfl, h, g, hz, q⟩
theorem cut_any {xs : List V} {z y : Int} {a b : Nat} (h : z = (a : Int)) (g : y = (b : Int)) : cutV xs (some z) (some y) = (xs.drop a).take (b - a) := by
  subst h; subst g
  unfold cutV
  rw [show HT.sIx xs.length 0 (some (a : Int)) = min a xs.length from HT.sIx_nat xs.length 0 a, show HT.sIx xs.length xs.length (some (b : Int)) = min b xs.length from HT.sIx_nat xs.length xs.length b]
  by_cases q : a ≤ xs.length
  · rw [Nat.min_eq_left q]
    by_cases q2 : b ≤ xs.length
    · rw [Nat.min_eq_left q2]
    · rw [Nat.min_eq_right (by omega), List.take_of_length_le (by rw [List.length_drop]; omega), List.take_of_length_le (by rw [List.length_drop]; omega)]
  · rw [Nat.min_eq_right (show xs.length ≤ a by omega), List.drop_of_length_le (Nat.le_refl _), List.drop_of_length_le (show xs.length ≤ a by omega)]; simp
/-! ### data kept -/
theorem sqT_same {a : Addr} {xs : List V} (s : Same H H') (h : SqT K H a xs) : SqT K H' a xs := by
  rcases h with (h | ⟨o, h⟩) | h
  · exact .inl (.inl (s _ _ h))
  · exact .inl (.inr ⟨o, s _ _ h⟩)
  · exact .inr h
mutual
theorem dp_same (s : Same H H') : ∀ (d : PyData) (v : V), Dp K H v d → Dp K H' v d
  | .none, _, h => by cases h; exact .non
  | .bool b, _, h => by cases h; exact .bl b
  | .int i, _, h => by cases h; exact .int i
  | .str y, _, h => by cases h; exact .str y
  | .list ds, _, h => by
    cases h with
    | lst e a => exact .lst (s.seq e) (dp_sameAll s ds _ a)
  | .tuple ds, _, h => by
    cases h with
    | tup e a => exact .tup (sqT_same s e) (dp_sameAll s ds _ a)
  | .dict _, _, h => by cases h
theorem dp_sameAll (s : Same H H') : ∀ (ds : List PyData) (vs : List V), DpAll K H vs ds → DpAll K H' vs ds
  | [], _, h => by cases h; exact .nil
  | d :: ds, _, h => by
    cases h with
    | cons a b => exact .cons (dp_same s d _ a) (dp_sameAll s ds _ b)
end
theorem dpall_len : ∀ {vs : List V} {ds : List PyData}, DpAll K H vs ds → vs.length = ds.length
  | _, _, .nil => rfl
  | _, _, .cons _ b => congrArg (· + 1) (dpall_len b)
theorem dpall_at : ∀ {vs : List V} {ds : List PyData} (h : DpAll K H vs ds) (i : Nat) (hi : i < ds.length), ∃ v, vs[i]? = some v ∧ Dp K H v ds[i]
  | _, _, .cons a b, 0, _ => ⟨_, rfl, a⟩
  | _, _, .cons a b, i + 1, hi => dpall_at b i (Nat.lt_of_succ_lt_succ hi)
theorem depth_at : ∀ {ds : List PyData} {i : Nat} (hi : i < ds.length), ds[i].depth ≤ PyData.depthAll ds
  | d :: ds, 0, _ => Nat.le_max_left _ _
  | d :: ds, i + 1, hi => Nat.le_trans (depth_at (ds := ds) (Nat.lt_of_succ_lt_succ hi)) (Nat.le_max_right _ _)
end
end Xk

set_option Elab.async false
set_option linter.all false
set_option maxRecDepth 100000
namespace Xk
open PySem PySem.Spec PyProof.Rows L2 GenW
/-! ### for in a generator -/
section
variable {M : Model} {A : Around} {R : GenEnd} {Y : Protocol} {n : Nat} {s₀ : Shared} {c : Code} {fs : List Frame} {s : Shared} {env : Env}
  {K : Flow → Sem PySem.Fin} {H : Value → Sem PySem.Fin} {gd : Bool → Bool} {lv : List Value → List Value}
theorem seg_For {target iter : Expr} {body orelse : List Stmt} {pos : Pos} (hs : ∀ x, foldedSetIterable iter env x = pure x)
    (h : wpAny M (A.over c fs) (eval iter env) (fun x s₁ => wpAny M (A.over c fs) (pyIter x) (fun it s₂ =>
      ∀ p, Seg M A R Y n s₀ (.forLoop target it body orelse env) (M.den (.forLoop target it body orelse env))
      (.ret (fun r => ((match r with | .ok f => (.pure f : Sem Flow) | .error e => .raise e).onRaise (cameBack env)).wrap K H gd lv) none (gd false) (lv []) c p [] :: fs) s₂)
      (fun x s' => Seg M A R Y n s₀ c (H x) fs s') s₁) (fun x s' => Seg M A R Y n s₀ c (H x) fs s') s) :
    Seg M A R Y n s₀ c ((exec (.For target iter body orelse pos) env).wrap K H gd lv) fs s := by
  rw [exec_For]
  simp only [hs]
  rw [Sem.bind_eq_wrap', Sem.wrap_wrap]
  refine seg_wrap (wpAny_standAt ?_)
  rw [Sem.bind_eq_wrap', Sem.wrap_wrap]
  refine seg_wrap (wpAny_mono h (fun x s₁ h₁ => ?_) fun _ _ z => z)
  show Seg M A R Y n s₀ c (Sem.wrap K H gd lv (standAt iter.pos >>= fun _ => holding [x] (pyIter x) >>= fun it => runOwn (.forLoop target it body orelse env) env)) fs s₁
  rw [Sem.bind_eq_wrap', Sem.wrap_wrap]
  refine seg_wrap (wpAny_standAt ?_)
  rw [Sem.bind_eq_wrap', Sem.wrap_wrap]
  refine seg_wrap (wpAny_holding (wpAny_mono h₁ (fun it s₂ h₂ => ?_) fun _ _ z => z))
  exact seg_call h₂
end
section
variable {prog : Program} {w : World} {A : Around} {R : GenEnd} {Y : Protocol} {n : Nat} {s₀ : Shared} {fs : List Frame} {s : Shared} {env : Env}
/-- one turn: a next item, or the end -/
theorem seg_forLoop {target : Expr} {it : Value} {body : List Stmt}
    (h : wpAny (model prog w) (A.over (.forLoop target it body [] env) fs) (pyNext it) (fun r s' => match r with
      | none => Seg (model prog w) A R Y n s₀ (.forLoop target it body [] env) (.pure (.again (.block [] env))) fs s'
      | some v => wpAny (model prog w) (A.over (.forLoop target it body [] env) fs) (letOwnedTupleGo target it v) (fun _ s1 =>
          wpAny (model prog w) (A.over (.forLoop target it body [] env) fs) (assign target env v) (fun _ s2 =>
            Seg (model prog w) A R Y n s₀ (.forLoop target it body [] env) ((execs body env).wrap (fun f => match f with
              | .next | .cont => .pure (.again (.forLoop target it body [] env))
              | .brk => .pure (.done .next)
              | .ret v => .pure (.done (.ret v))) (fun e => (do noteFrame e env; theTreesLotGoes e : Sem Unit).wrap (fun _ => .raise e) .raise id id) id id) fs s2) (fun _ _ => False) s1) (fun _ _ => False) s')
      (fun _ _ => False) s) :
    Seg (model prog w) A R Y n s₀ (.forLoop target it body [] env) ((model prog w).den (.forLoop target it body [] env)) fs s := by
  show Seg _ A R Y n s₀ _ ((forTurn target it body [] env).onRaise (fun x => do noteFrame x env; theTreesLotGoes x)) fs s
  unfold forTurn
  rw [Sem.onRaise_eq_wrap, Sem.bind_eq_wrap', Sem.wrap_wrap]
  refine seg_wrap (wpAny_standAt ?_)
  rw [Sem.bind_eq_wrap', Sem.wrap_wrap]
  refine seg_wrap (wpAny_onRaise (wpAny_mono h (fun r s' hr => ?_) fun _ _ z => z.elim))
  cases r with
  | none => exact hr
  | some v =>
    show Seg _ A R Y n s₀ _ (Sem.wrap _ _ _ _ (letOwnedTupleGo target it v >>= _)) fs s'
    rw [Sem.bind_eq_wrap', Sem.wrap_wrap]
    refine seg_wrap (wpAny_mono hr (fun _ s1 h1 => ?_) fun _ _ z => z.elim)
    rw [Sem.bind_eq_wrap', Sem.wrap_wrap]
    refine seg_wrap (wpAny_mono h1 (fun _ s2 h2 => ?_) fun _ _ z => z.elim)
    rw [Sem.bind_eq_wrap', Sem.wrap_wrap]
    rw [Sem.wrap_congr (execs body env) _ _ (K' := fun f => match f with
          | .next | .cont => .pure (.again (.forLoop target it body [] env))
          | .brk => .pure (.done .next)
          | .ret v => .pure (.done (.ret v))) (H' := (fun e => (do noteFrame e env; theTreesLotGoes e : Sem Unit).wrap (fun _ => .raise e) .raise id id))
      (fun f => by cases f <;> rfl)
      (fun e => by first | exact Sem.bind_eq_wrap _ _ | (show (do noteFrame e env; theTreesLotGoes e : Sem Unit).bind (fun _ => .raise e) = _; rw [Sem.bind_eq_wrap]))]
    exact h2
theorem seg_block0 {c : Code} {p : Pos} {l kp : List Value} {k : Result → Sem PySem.Fin} {g : Bool}
    (h : Seg (model prog w) A R Y n s₀ c (k (.ok .next)) fs s) :
    Seg (model prog w) A R Y n s₀ (.block [] env) ((model prog w).den (.block [] env)) (.ret k none g l c p kp :: fs) s := by
  show Seg _ A R Y n s₀ _ (leafOf (.ok .next)) _ s
  exact seg_leaf (.ok .next) h
end
/-- a for whose turns may hand out: as tFor, ys is out so far -/
def tGFor (wi : TI) (g : TG) (tb : TGn) : TGn := fun D ys σ H => wi σ H fun J H1 => ∃ W : Nat → Nat → List V → L2.St → Hp → Prop, (∃ m, W 0 m ys σ H1) ∧ ∀ i m ys σ H, W i m ys σ H →
  (J.stop i H ∧ D.nx ys σ H) ∨ (J.go i H ∧ ∃ N : List V → L2.St → Hp → Prop, (∀ ys' σ' H', N ys' σ' H' → ∃ m', m' < m ∧ W (i + 1) m' ys' σ' H') ∧ ∀ x H', J.yld i H x H' → g x σ H' fun σ2 H2 => tb { D with nx := N, ct := N, bk := D.nx } ys σ2 H2)
section
variable {X : Cx}
theorem gs_for {tg iter : Expr} {body : List Stmt} {wi : TI} {g : TG} {tb : TGn} {pos : Pos} (hno : ∀ e s', X.xe e s' → False) (hc : X.calm = true) (hi : PI X tg iter wi) (hg : PG X tg g) (hb : GSs X body tb)
    (hs : ∀ x, foldedSetIterable iter X.env x = pure x := by intro _; rfl) : GS X (.For tg iter body [] pos) (tGFor wi g tb) := by
  refine ⟨fun A S ip R n ys s₀ c fs K J gd lv s σ H D gc hn k hI ht => ?_⟩
  obtain ⟨acc, cc, r, I⟩ := hI
  refine seg_For hs ?_
  rw [gc.over]
  refine wpAny_mono (hi.run _ s σ H _ I ht) (fun v s1 h1 => wpAny_mono h1 (fun itv s2 h2 => ?_) fun x s' hx => (hno x s' hx).elim) fun x s' hx => (hno x s' hx).elim
  obtain ⟨it, fp, tn, J', H2, e, I2, T, st2, f2, W, ⟨m0, w0⟩, turn⟩ := h2
  subst e
  have hfS : ∀ b ∈ fp, S ≠ b := fun b hb => (f2 b hb).2.2.2.2.2 (S, lstObj acc cc) (List.mem_append_right _ List.mem_cons_self)
  have stat : ∀ {H' : Hp} {acc' : Array Value} {c' : Nat}, (∀ b ∈ fp, H' b = none) → ∀ b ∈ fp, FpOk X ((S, lstObj acc' c') :: ip) H' b := fun hn b hb => ⟨hn b hb, (f2 b hb).2.1, (f2 b hb).2.2.1, (f2 b hb).2.2.2.1, (f2 b hb).2.2.2.2.1, fun p hp => by
      rcases List.mem_append.mp hp with z | z
      · exact (f2 b hb).2.2.2.2.2 p (List.mem_append_left _ z)
      · rcases List.mem_cons.mp z with z | z
        · rw [z]; exact hfS b hb
        · exact (f2 b hb).2.2.2.2.2 p (List.mem_append_right _ (List.mem_cons_of_mem _ z))⟩
  intro p
  have gl := fun (kk : Result → Sem PySem.Fin) => gc_loop (k := kk) (c' := .forLoop tg (.ref it) body [] X.env) (l := lv []) (kp := []) (p := p) gc rfl rfl
  have loop : ∀ (m i n : Nat) (ys : List V) (s₀ s : Shared) (σ : L2.St) (H : Hp), n + ys.length = sizeLine → W i m ys σ H → GI X S ip ys σ H s → tn i s.heap → (∀ b ∈ fp, H b = none) →
      Seg (model X.prog X.w) A R (GY X S) n s₀ (.forLoop tg (.ref it) body [] X.env) ((model X.prog X.w).den (.forLoop tg (.ref it) body [] X.env))
        (.ret (fun r => ((match r with | .ok f => (.pure f : Sem Flow) | .error e => .raise e).onRaise (cameBack X.env)).wrap K J gd lv) none (gd false) (lv []) c p [] :: fs) s := by
    intro m
    induction m using Nat.strongRecOn with
    | ind m ih =>
      intro i n ys s₀ s3 σ3 H3 hn w hI st3 fr3
      refine seg_forLoop ?_
      rw [(gl _).over]
      obtain ⟨acc, cc, r, I⟩ := hI
      rcases turn i m ys σ3 H3 w with ⟨stop, qn⟩ | ⟨go, N, hN, step⟩
      · refine wpAny_mono (T.done X rfl rfl rfl hc i _ s3 σ3 H3 (fun _ _ => False) I (stat fr3) st3 stop) (fun r' s4 hr4 => ?_) fun _ _ z => z
        obtain ⟨hr, I4⟩ := hr4
        subst hr
        exact seg_again rfl (seg_block0 (k.ok n ys s₀ s4 .next hn ⟨σ3, H3, ⟨acc, cc, r, I4⟩, qn⟩))
      · refine wpAny_mono (T.item X rfl rfl rfl hc i _ s3 σ3 H3 (fun _ _ => False) I (stat fr3) st3 go) (fun r' s4 hr4 => ?_) fun _ _ z => z
        obtain ⟨u, hr, h4⟩ := hr4
        subst hr
        refine wpAny_mono h4 (fun _ s5 h5 => ?_) fun _ _ z => z
        obtain ⟨x, H5, I5, r5, y5, st5, fr5⟩ := h5
        have I5' := I5.pinned (stat fr5) (T.obj _ _ st5)
        refine wpAny_mono (hg.run _ s5 σ3 H5 x u _ I5' r5 (step x H5 y5)) (fun _ s6 h6 => ?_) fun x s' hx => hno x s' hx
        obtain ⟨σ6, H6, I6, q6⟩ := h6
        have g1 := gl (fun r => ((match r with | .ok f => (.pure f : Sem Flow) | .error e => .raise e).onRaise (cameBack X.env)).wrap K J gd lv)
        have gl' : GC X S (ip ++ pinsAt fp s5.heap) A (.forLoop tg (.ref it) body [] X.env) (.ret (fun r => ((match r with | .ok f => (.pure f : Sem Flow) | .error e => .raise e).onRaise (cameBack X.env)).wrap K J gd lv) none (gd false) (lv []) c p [] :: fs) id :=
          { pn := g1.pn, apart := g1.apart, over := g1.over, split := g1.split, guard := g1.guard, gd := rfl,
            ip := fun q hq => (List.mem_append.mp hq).elim (gc.ip q) fun z => Ne.symm (hfS q.1 (of_pinsAt z).1) }
        have back : ∀ {ys' : List V} {σ7 : L2.St} {H7 : Hp} {s7 : Shared}, GI X S (ip ++ pinsAt fp s5.heap) ys' σ7 H7 s7 → GI X S ip ys' σ7 H7 s7 ∧ tn (i + 1) s7.heap ∧ ∀ b ∈ fp, H7 b = none := fun {ys' σ7 H7 s7} hI7 => by
          obtain ⟨a7, c7, r7, J7⟩ := hI7
          refine ⟨⟨a7, c7, r7, J7.pins_of fun q hq => J7.pin q (List.mem_append_right _ ?_)⟩, T.keep _ _ _ st5 fun b hb o e => (J7.pin (b, o) (List.mem_append_right _ (List.mem_cons_of_mem _ (List.mem_append_right _ (mem_pinsAt hb e))))).1, fun b hb => ?_⟩
          · rcases List.mem_cons.mp hq with z | z
            · rw [z]; exact List.mem_cons_self
            · exact List.mem_cons_of_mem _ (List.mem_append_left _ z)
          · obtain ⟨o, e, d⟩ := T.obj _ _ st5 b hb
            exact (J7.pin (b, o) (List.mem_append_right _ (List.mem_cons_of_mem _ (List.mem_append_right _ (mem_pinsAt hb e))))).2.1
        refine hb.run A S (ip ++ pinsAt fp s5.heap) R n ys s₀ _ _ _ _ id id s6 σ6 H6 { D with nx := N, ct := N, bk := D.nx } gl' hn ⟨fun n' ys' s₀' s7 f hn' hs => ?_, fun n' s₀' x s3 hx => (hno x s3 hx).elim⟩ ⟨acc, cc, r, I6⟩ q6
        cases f with
        | next =>
          obtain ⟨σ7, H7, I7, n7⟩ := hs
          obtain ⟨m', hm, w7⟩ := hN ys' σ7 H7 n7
          obtain ⟨b1, b2, b3⟩ := back I7
          exact seg_again rfl (ih m' hm (i + 1) n' ys' s₀' s7 σ7 H7 hn' w7 b1 b2 b3)
        | cont =>
          obtain ⟨σ7, H7, I7, n7⟩ := hs
          obtain ⟨m', hm, w7⟩ := hN ys' σ7 H7 n7
          obtain ⟨b1, b2, b3⟩ := back I7
          exact seg_again rfl (ih m' hm (i + 1) n' ys' s₀' s7 σ7 H7 hn' w7 b1 b2 b3)
        | brk =>
          obtain ⟨σ7, H7, I7, q7⟩ := hs
          exact seg_leaf (.ok .next) (k.ok n' ys' s₀' s7 .next hn' ⟨σ7, H7, (back I7).1, q7⟩)
        | ret v =>
          obtain ⟨x7, σ7, H7, I7, r7, q7⟩ := hs
          exact seg_leaf (.ok (.ret v)) (k.ok n' ys' s₀' s7 (.ret v) hn' ⟨x7, σ7, H7, (back I7).1, r7, q7⟩)
  exact loop m0 0 n ys s₀ s2 σ H2 hn w0 ⟨acc, cc, r, I2⟩ st2 fun b hb => (f2 b hb).1
end
/-! ### no exception leaves; a generator def by its body -/
section
variable {X : Cx} {S : Addr} {ip : List (Addr × Obj)} {ys : List V} {σ : L2.St} {H : Hp} {s : Shared} {E : Value → Shared → Prop} {D : GEnds} {f : Flow}
theorem gi_wish (h : GI X S ip ys σ H s) : GI (X.wish E) S ip ys σ H s := match h with | ⟨a, c, r, I⟩ => ⟨a, c, r, I.wish E⟩
theorem gi_unwish (h : GI (X.wish E) S ip ys σ H s) : GI X S ip ys σ H s := match h with | ⟨a, c, r, I⟩ => ⟨a, c, r, I.unwish⟩
theorem gsp_unwish (h : GSP (X.wish E) S ip D ys f s) : GSP X S ip D ys f s := by
  cases f with
  | next => obtain ⟨a, b, h1, h2⟩ := h; exact ⟨a, b, gi_unwish h1, h2⟩
  | brk => obtain ⟨a, b, h1, h2⟩ := h; exact ⟨a, b, gi_unwish h1, h2⟩
  | cont => obtain ⟨a, b, h1, h2⟩ := h; exact ⟨a, b, gi_unwish h1, h2⟩
  | ret u => obtain ⟨v, a, b, h1, h2⟩ := h; exact ⟨v, a, b, gi_unwish h1, h2⟩
theorem gss_nox {st : List Stmt} {t : TGn} (h : GSs X.nox st t) : GSs X st t := by
  refine ⟨fun A S ip R n ys s₀ c fs K J gd lv s σ H D g hn k hI ht => ?_⟩
  refine seg_imp (R := R) (Y := GY X.nox S) (fun _ _ _ _ z => z) (fun n s₀ v s kap kap' hkk hy => ?_) n (h.run A S ip R n ys s₀ c fs K J gd lv s σ H D ⟨g.pn, g.ip, g.apart, g.over, g.split, g.guard, g.gd⟩ hn ⟨fun n' ys' s₀' s' f hn' hs => ?_, fun _ _ _ _ z => z.elim⟩ (gi_wish hI) ht)
  · obtain ⟨ys, x, ip, σ, H, h1, h2, h3, h4⟩ := hy
    exact ⟨ys, x, ip, σ, H, h1, h2, gi_unwish h3, fun s' z => hkk _ _ (h4 s' z)⟩
  · refine seg_imp (R := R) (Y := GY X S) (fun _ _ _ _ z => z) (fun n s₀ v s kap kap' hkk hy => ?_) n' (k.ok n' ys' s₀' s' f hn' (gsp_unwish hs))
    obtain ⟨ys, x, ip, σ, H, h1, h2, h3, h4⟩ := hy
    exact ⟨ys, x, ip, σ, H, h1, h2, gi_wish h3, fun s' z => hkk _ _ (h4 s' z)⟩
end
section
variable {P : Program} {w : World} {K : PySem.W.Frag} {mg : Str → Option Value} {base : Heap}
theorem okGen {x qual : Str} {st : Stmt} {f : Addr} {fd : FuncData} {N ps : List Str} {k : Nat} {sp : SpG} (F : Fun K x qual st f fd) (S : GScope N ps (defScope st)) (cnt : ∀ vs H Q E, sp vs H Q E → vs.length = ps.length)
    (body : ∀ (cdv : Value) (A : Around) (ou : List Env) (t : Shared) (H : Hp) (vs : List V) (Q : List V → Hp → Prop) (E : XK) (pn : List (Addr × Obj)), Room k (A.deeper (envOfC qual (defScope st) t.heap.objs.size f cdv)) → sp vs H Q E →
      ∃ r, GSs (gcxOf P w K mg base N qual (defScope st) f cdv A ou t H E pn).nox (defBody st) r ∧ r ⟨fun ys _ H' => Q ys H', fun ys v H' => v = .non ∧ Q ys H', fun _ _ _ => False, fun _ _ _ => False⟩ [] (L2.start N vs) H) :
    GFn P w K mg base (k + 1) f fd ps sp := by
  obtain ⟨oc, od, kV, doc, pm, an, cdv, ct, osl, rfl, lk, hcd⟩ := F.ex
  refine gfn_of lk hcd S cnt fun A ou t H vs Q E pn hr hsp => ?_
  obtain ⟨r, h, q⟩ := body cdv A ou t H vs Q E pn hr hsp
  exact ⟨r, gss_nox h, q⟩
end
section
variable {X : Cx}
theorem passG {X : Cx} : Passes (CX X.prog X.w) X (fun _ _ _ => False) := fun pins σ H s e s' _ h => by
  obtain ⟨_, _, _, _, _, _, _, _, _, _, _, _, z⟩ := h
  exact z.elim
theorem noStop0 {K : PySem.W.Frag} : NoStop K (fun _ _ _ => False) := fun _ _ _ z => z.elim
theorem r_gone {D : GEnds} {ys : List V} {σ : L2.St} {H : Hp} {t u : TGn} (h : t ⟨fun ys' σ' H' => u D ys' σ' H', D.rt, D.bk, D.ct⟩ ys σ H) : tGThen t u D ys σ H := h
theorem r_gplain {D : GEnds} {ys : List V} {σ : L2.St} {H : Hp} {t : TS} (h : t ⟨D.nx ys, D.rt ys, D.bk ys, D.ct ys⟩ σ H) : tPlain t D ys σ H := h
theorem r_gyield {D : GEnds} {ys : List V} {σ : L2.St} {H : Hp} {te : TE} (hy : ys.length < sizeLine) (h : te σ H fun x H1 => D.nx (ys ++ [x]) σ H1) : tGYield te D ys σ H := ⟨hy, h⟩
theorem r_g0 {D : GEnds} {ys : List V} {σ : L2.St} {H : Hp} (h : D.nx ys σ H) : tG0 D ys σ H := h
theorem r_gfor {wi : TI} {g : TG} {tb : TGn} {D : GEnds} {ys : List V} {σ : L2.St} {H : Hp} (h : wi σ H fun J H1 => ∃ W : Nat → Nat → List V → L2.St → Hp → Prop, (∃ m, W 0 m ys σ H1) ∧ ∀ i m ys σ H, W i m ys σ H →
  (J.stop i H ∧ D.nx ys σ H) ∨ (J.go i H ∧ ∃ N : List V → L2.St → Hp → Prop, (∀ ys' σ' H', N ys' σ' H' → ∃ m', m' < m ∧ W (i + 1) m' ys' σ' H') ∧ ∀ x H', J.yld i H x H' → g x σ H' fun σ2 H2 => tb ⟨N, D.rt, D.nx, N⟩ ys σ2 H2)) : tGFor wi g tb D ys σ H := h
/-- a generator's turns over what is walked -/
theorem gforI {J : It} {n : Nat} {G : Hp → Prop} {Y : Nat → Hp → V → Hp → Prop} (w : Walk J n G Y) {g : TG} {tb : TGn} {nx : List V → L2.St → Hp → Prop} {rt : List V → VK} {ys : List V} {σ : L2.St} {H : Hp} (Pv : Nat → List V → L2.St → Hp → Prop) (h0 : Pv 0 ys σ H) (hG : ∀ i ys σ H, i ≤ n → Pv i ys σ H → G H)
    (hs : ∀ i x ys σ H H', i < n → Pv i ys σ H → Y i H x H' → g x σ H' fun σ2 H2 => tb ⟨Pv (i + 1), rt, nx, Pv (i + 1)⟩ ys σ2 H2) (hd : ∀ ys σ H, Pv n ys σ H → nx ys σ H) :
    ∃ W : Nat → Nat → List V → L2.St → Hp → Prop, (∃ m, W 0 m ys σ H) ∧ ∀ i m ys σ H, W i m ys σ H →
      (J.stop i H ∧ nx ys σ H) ∨ (J.go i H ∧ ∃ N : List V → L2.St → Hp → Prop, (∀ ys' σ' H', N ys' σ' H' → ∃ m', m' < m ∧ W (i + 1) m' ys' σ' H') ∧ ∀ x H', J.yld i H x H' → g x σ H' fun σ2 H2 => tb ⟨N, rt, nx, N⟩ ys σ2 H2) := by
  refine ⟨fun i m ys σ H => i + m = n ∧ Pv i ys σ H, ⟨n, Nat.zero_add n, h0⟩, fun i m ys σ H ⟨e, p⟩ => ?_⟩
  cases m with
  | zero =>
    have e' : i = n := e
    subst e'
    exact .inl ⟨w.stops _ (hG _ ys σ H (Nat.le_refl _) p), hd _ _ _ p⟩
  | succ m =>
    refine .inr ⟨w.goes i H (by omega) (hG i ys σ H (by omega) p), Pv (i + 1), fun ys' σ' H' q => ⟨m, Nat.lt_succ_self m, by omega, q⟩, fun x H' y => ?_⟩
    exact hs i x ys σ H H' (by omega) p (w.yields i H x H' (by omega) (hG i ys σ H (by omega) p) y)
theorem gforA {J : It} {G : Hp → Prop} {xs : List V} (w : Walk J xs.length G (YAt xs)) {g : TG} {tb : TGn} {nx : List V → L2.St → Hp → Prop} {rt : List V → VK} {ys : List V} {σ : L2.St} {H : Hp} (Pv : Nat → List V → L2.St → Hp → Prop) (h0 : Pv 0 ys σ H) (hG : ∀ i ys σ H, i ≤ xs.length → Pv i ys σ H → G H)
    (hs : ∀ i ys σ H (hi : i < xs.length), Pv i ys σ H → g xs[i] σ H fun σ2 H2 => tb ⟨Pv (i + 1), rt, nx, Pv (i + 1)⟩ ys σ2 H2) (hd : ∀ ys σ H, Pv xs.length ys σ H → nx ys σ H) :
    ∃ W : Nat → Nat → List V → L2.St → Hp → Prop, (∃ m, W 0 m ys σ H) ∧ ∀ i m ys σ H, W i m ys σ H →
      (J.stop i H ∧ nx ys σ H) ∨ (J.go i H ∧ ∃ N : List V → L2.St → Hp → Prop, (∀ ys' σ' H', N ys' σ' H' → ∃ m', m' < m ∧ W (i + 1) m' ys' σ' H') ∧ ∀ x H', J.yld i H x H' → g x σ H' fun σ2 H2 => tb ⟨N, rt, nx, N⟩ ys σ2 H2) :=
  gforI w Pv h0 hG (fun i x ys σ H H' hi p y => by
    obtain ⟨rfl, e⟩ := y
    rw [List.getElem?_eq_getElem hi] at e
    cases e
    exact hs i ys σ H' hi p) hd
end
end Xk
local macro_rules | `(tactic| fail "one") => `(tactic| with_reducible first
  | refine Xk.r_gone ?_ | refine Xk.r_gplain ?_ | refine Xk.r_g0 ?_ | refine Xk.r_gfor ?_)

set_option Elab.async false
set_option linter.all false
set_option maxRecDepth 100000
namespace Xk
open PySem PySem.Spec PyProof.Rows L2 GenW
theorem zipNoLen : typeLookup (.type "zip") "__len__" = pure none := by rw [typeLookup_type, builtinLookup_eq_fast]; kernel_rfl
theorem zipNoHint : typeLookup (.type "zip") "__length_hint__" = pure none := by rw [typeLookup_type, builtinLookup_eq_fast]; kernel_rfl
/-- a zip of two lists amid its turns, the pairs that it gave out being kept (in S) -/
def ZSt (z TI TO i1 i2 l1 l2 S : Addr) (xs ys : Array Value) (i : Nat) (h : Heap) : Prop :=
  IsPair h TI (.ref i1) (.ref i2) ∧ h.IsListIter i1 l1 i ∧ h.IsListIter i2 l2 i ∧ h.IsList l1 xs ∧ h.IsList l2 ys ∧
    ((IsZip h z TI TO .none ∧ ∃ a b, IsPair h TO a b) ∨ ∃ T f oT, IsZipHeld h z TI TO T f ∧ h.get? T = some oT ∧ T ≠ z ∧ T ≠ i1 ∧ T ≠ i2 ∧ T ≠ S ∧ ∃ oo, h.get? TO = some oo)
section
variable {X : Cx} {A : Around} {z TI TO i1 i2 l1 l2 S : Addr} {xs ys : Array Value} {vx vy : List V} {pins : List (Addr × Obj)} {σ : L2.St} {H0 : Hp} {R : Result → Shared → Prop} {res : Value}
structure ZOff (z TI TO i1 i2 l1 l2 S : Addr) : Prop where
  z : S ≠ z
  TI : S ≠ TI
  TO : S ≠ TO
  i1 : S ≠ i1
  i2 : S ≠ i2
  l1 : S ≠ l1
  l2 : S ≠ l2
/-- the pairs' tuples -/
structure Prs (H0 H : Hp) (ts : List Addr) (vx vy : List V) : Prop where
  at_ : ∀ (j : Nat) (t : Addr), ts[j]? = some t → H0 t = none ∧ ∃ x y, vx[j]? = some x ∧ vy[j]? = some y ∧ H t = some (.tup [x, y])
theorem zip_next {i : Nat} {s : Shared} {x y : Value} {E : Value → Shared → Prop} {Q : Option Value → Shared → Prop} (D : ZipApart z TI TO i1 i2 l1 l2) (off : ZOff z TI TO i1 i2 l1 l2 S) (hS : S < s.heap.objs.size) (st : ZSt z TI TO i1 i2 l1 l2 S xs ys i s.heap) (hx : xs[i]? = some x) (hy : ys[i]? = some y)
    (hQ : ∀ h', (∀ b o, b ∉ [z, TO, i1, i2] → s.heap.get? b = some o → h'.get? b = some o) → IsPair h' s.heap.objs.size x y → h'.objs.size = s.heap.objs.size + 1 →
      (∀ h'', (∀ b o, b ≠ S → h'.get? b = some o → h''.get? b = some o) → ZSt z TI TO i1 i2 l1 l2 S xs ys (i + 1) h'') → Q (some (.ref s.heap.objs.size)) { s with heap := h' }) :
    wpAny (model X.prog X.w) A (pyNext (.ref z)) Q E s := by
  obtain ⟨hTI, h1, h2, hl1, hl2, hz⟩ := st
  have big : ∀ {c o}, s.heap.get? c = some o → s.heap.objs.size ≠ c := fun e => Nat.ne_of_gt (Heap.lt_size e)
  have b1 : s.heap.objs.size ≠ i1 := let ⟨_, e, _⟩ := h1; big e
  have b2 : s.heap.objs.size ≠ i2 := let ⟨_, e, _⟩ := h2; big e
  rcases hz with ⟨hz, a, b, hTO⟩ | ⟨T, f, oT, hz, hT, r1, r2, r3, r4, oo, hoo⟩
  · refine wpAny_pyNext_zip_item D hz hTI hTO h1 h2 hl1 hl2 hx hy fun h' a1 a2 a3 a4 a5 a6 hk => ?_
    refine hQ h' (fun c o hc e => hk c o (fun q => hc (by simp [q])) (fun q => hc (by simp [q])) (fun q => hc (by simp [q])) (fun q => hc (by simp [q])) e) a5 a6 fun h'' k => ?_
    refine ⟨k _ _ off.TI.symm (hk _ _ D.TIz D.TITO D.TIi1 D.TIi2 hTI), a3.at fun o e => k _ o off.i1.symm e, a4.at fun o e => k _ o off.i2.symm e, hl1.at fun o e => k _ o off.l1.symm (hk _ o D.l1z D.l1TO D.l1i1 D.l1i2 e), hl2.at fun o e => k _ o off.l2.symm (hk _ o D.l2z D.l2TO D.l2i1 D.l2i2 e),
      .inr ⟨s.heap.objs.size, false, _, k _ _ off.z.symm a1, k _ _ (Nat.ne_of_gt hS) a5, big hz, b1, b2, Nat.ne_of_gt hS, _, k _ _ off.TO.symm a2⟩⟩
  · refine wpAny_pyNext_zip_item_held D hz hT hTI h1 h2 hl1 hl2 hx hy fun h' a1 a3 a4 a5 a6 hk => ?_
    refine hQ h' (fun c o hc e => hk c o (fun q => hc (by simp [q])) (fun q => hc (by simp [q])) (fun q => hc (by simp [q])) e) a5 a6 fun h'' k => ?_
    refine ⟨k _ _ off.TI.symm (hk _ _ D.TIz D.TIi1 D.TIi2 hTI), a3.at fun o e => k _ o off.i1.symm e, a4.at fun o e => k _ o off.i2.symm e, hl1.at fun o e => k _ o off.l1.symm (hk _ o D.l1z D.l1i1 D.l1i2 e), hl2.at fun o e => k _ o off.l2.symm (hk _ o D.l2z D.l2i1 D.l2i2 e),
      .inr ⟨T, true, oT, k _ _ off.z.symm a1, k _ _ r4 (hk _ _ r1 r2 r3 hT), r1, r2, r3, r4, oo, k _ _ off.TO.symm (hk _ _ D.TOz D.TOi1 D.TOi2 hoo)⟩⟩
theorem zip_over {i : Nat} {s : Shared} {E : Value → Shared → Prop} {Q : Option Value → Shared → Prop} (hh : A.handled = none) (D : ZipApart z TI TO i1 i2 l1 l2) (st : ZSt z TI TO i1 i2 l1 l2 S xs ys i s.heap) (he : xs[i]? = none ∨ ys[i]? = none)
    (hQ : ∀ h', (∀ b o, b ∉ [z, TO, i1, i2] → s.heap.get? b = some o → h'.get? b = some o) → Q none { s with heap := h' }) : wpAny (model X.prog X.w) A (pyNext (.ref z)) Q E s := by
  obtain ⟨hTI, h1, h2, hl1, hl2, hz⟩ := st
  rcases hz with ⟨hz, a, b, hTO⟩ | ⟨T, f, oT, hz, hT, r1, r2, r3, r4, oo, hoo⟩
  · exact wpAny_pyNext_zip_end hh D hz hTI hTO h1 h2 hl1 hl2 he fun h' hk => hQ h' fun c o hc e => hk c o (fun q => hc (by simp [q])) (fun q => hc (by simp [q])) (fun q => hc (by simp [q])) (fun q => hc (by simp [q])) e
  · exact wpAny_pyNext_zip_end_held hh D hz hT hTI h1 h2 hl1 hl2 he fun h' hk => hQ h' fun c o hc e => hk c o (fun q => hc (by simp [q])) (fun q => hc (by simp [q])) (fun q => hc (by simp [q])) e
theorem zip_drain (hh : A.handled = none) (D : ZipApart z TI TO i1 i2 l1 l2) (off : ZOff z TI TO i1 i2 l1 l2 S) (rx : Vals vx xs.toList) (ry : Vals vy ys.toList) {n : Nat} (hn : n = min vx.length vy.length) (hsz : n ≤ sizeLine)
    (hend : ∀ (H : Hp) (s' : Shared) (ts : List Addr) (acc : Array Value) (c : Nat), Inv X pins σ H s' → (∀ b ∈ [z, TO, i1, i2, S], FpOk X pins H b) → s'.heap.get? S = some (lstObj acc c) → Vals (ts.map V.ref) acc.toList → ts.length = n → Same H0 H → Prs H0 H ts vx vy → R (.ok (.ret res)) s') :
    ∀ (m i : Nat) (s : Shared) (H : Hp) (ts : List Addr) (acc : Array Value) (c : Nat), m + i = n → ZSt z TI TO i1 i2 l1 l2 S xs ys i s.heap → Inv X pins σ H s → (∀ b ∈ [z, TO, i1, i2, S], FpOk X pins H b) → s.heap.get? S = some (lstObj acc c) → Vals (ts.map V.ref) acc.toList → ts.length = i → Same H0 H → Prs H0 H ts vx vy →
      codeAny (model X.prog X.w) A (.builtin "list.extend.loop" ⟨[.ref S, .ref z, res], []⟩) R s := by
  have lx : vx.length = xs.size := by have := rx.length; simpa using this
  have ly : vy.length = ys.size := by have := ry.length; simpa using this
  intro m
  induction m with
  | zero =>
    intro i s H ts acc c hm st I fp hS rv hl sm pr
    refine codeAny_builtin F.entry_extend_loop ?_
    rw [Around.under_plainId F.plain_extend_loop _]
    show wpAny _ A.in1 (pyNext (.ref z) >>= _) _ _ s
    have hi : i = n := by omega
    have hend2 : xs[i]? = none ∨ ys[i]? = none := by
      rcases Nat.le_total vx.length vy.length with q | q
      · exact .inl (Array.getElem?_eq_none (by omega))
      · exact .inr (Array.getElem?_eq_none (by omega))
    refine wpAny_bind (zip_over (X := X) hh D st hend2 fun h' k => ?_)
    refine wpAny_pure ?_
    have I2 : Inv X pins σ H { s with heap := h' } := I.turnedL (t' := s.toks) (ch := [z, TO, i1, i2]) k fun b hb => fp b (List.mem_append_left [S] hb)
    have hSn : S ∉ [z, TO, i1, i2] := by simp [off.z, off.TO, off.i1, off.i2]
    exact hend H _ ts acc c I2 fp (k S _ hSn hS) rv (hl.trans hi) sm pr
  | succ m ih =>
    intro i s H ts acc c hm st I fp hS rv hl sm pr
    refine codeAny_builtin F.entry_extend_loop ?_
    rw [Around.under_plainId F.plain_extend_loop _]
    show wpAny _ A.in1 (pyNext (.ref z) >>= _) _ _ s
    have hix : i < xs.size := by omega
    have hiy : i < ys.size := by omega
    have ex := Array.getElem?_eq_getElem hix
    have ey := Array.getElem?_eq_getElem hiy
    have hvx : vx[i]? = some vx[i] := List.getElem?_eq_getElem (by omega)
    have hvy : vy[i]? = some vy[i] := List.getElem?_eq_getElem (by omega)
    refine wpAny_bind (zip_next (X := X) D off (Heap.lt_size hS) st ex ey fun h' k hT hz hst => ?_)
    have hSn : S ∉ [z, TO, i1, i2] := by simp [off.z, off.TO, off.i1, off.i2]
    have hS1 := k S _ hSn hS
    have hasz : acc.size = i := by
      have := rv.length
      rw [List.length_map, hl] at this
      simpa using this.symm
    show wpAny _ A.in1 (updateSeq S (·.push (.ref s.heap.objs.size)) >>= _) _ _ _
    refine wpAny_bind ?_
    refine wpAny_updateSeq hS1 rfl (wpAny_pure ⟨plainId_quiet F.plain_extend_loop _, ?_⟩) (by omega) (by show (acc.push _).size ≤ sizeLine + 1; rw [Array.size_push]; omega)
    have keep3 : ∀ b o, b ≠ S → h'.get? b = some o → (h'.update S (Obj.mapSeq (·.push (.ref s.heap.objs.size)))).get? b = some o := fun b o hbS e => (Heap.get?_update_other _ _ (Ne.symm hbS)).trans e
    have hTS : s.heap.objs.size ≠ S := Nat.ne_of_gt (Heap.lt_size hS)
    have hTn : H s.heap.objs.size = none := I.hok.fresh (Nat.le_refl _)
    have gx : RelV vx[i] xs[i] := by
      obtain ⟨u, hu, r⟩ := rx.get hvx
      have : u = xs[i] := by simpa [ex] using hu.symm
      rw [← this]; exact r
    have gy : RelV vy[i] ys[i] := by
      obtain ⟨u, hu, r⟩ := ry.get hvy
      have : u = ys[i] := by simpa [ey] using hu.symm
      rw [← this]; exact r
    have I2 : Inv X pins σ (upd H s.heap.objs.size (.tup [vx[i], vy[i]])) { s with heap := h'.update S (Obj.mapSeq (·.push (.ref s.heap.objs.size))) } :=
      I.turnedNew (t' := s.toks) (ch := [z, TO, i1, i2, S]) (fun b o hb e => keep3 b o (fun q => hb (by simp [q])) (k b o (fun q => hb (List.mem_append_left [S] q)) e)) fp (Nat.le_refl _)
        ⟨by show 2 ≤ sizeLine; decide, [xs[i], ys[i]], .cons gx (.cons gy .nil), ⟨_, keep3 _ _ hTS hT, rfl, _, rfl⟩⟩
    refine ih (i + 1) _ (upd H s.heap.objs.size (.tup [vx[i], vy[i]])) (ts ++ [s.heap.objs.size]) (acc.push (.ref s.heap.objs.size)) _ (by omega) (hst _ keep3) I2 (fun b hb => ?_) (Heap.get?_update_self _ hS1 rfl) ?_ (by rw [List.length_append, hl]; rfl) (sm.trans (same_new hTn)) ⟨fun j t e => ?_⟩
    · obtain ⟨f1, f2⟩ := fp b hb
      refine ⟨?_, f2⟩
      have hne : b ≠ s.heap.objs.size := by
        obtain ⟨hTI, ⟨o1, e1, _⟩, ⟨o2, e2, _⟩, hl1, hl2, hz'⟩ := st
        have big : ∀ {c o}, s.heap.get? c = some o → c ≠ s.heap.objs.size := fun e => Nat.ne_of_lt (Heap.lt_size e)
        have e' : b = z ∨ b = TO ∨ b = i1 ∨ b = i2 ∨ b = S := by simpa using hb
        rcases e' with q | q | q | q | q
        · rw [q]; rcases hz' with ⟨q1, _⟩ | ⟨_, _, _, q1, _⟩ <;> exact big q1
        · rw [q]; rcases hz' with ⟨_, _, _, q1⟩ | ⟨_, _, _, _, _, _, _, _, _, _, q1⟩ <;> exact big q1
        · rw [q]; exact big e1
        · rw [q]; exact big e2
        · rw [q]; exact hTS.symm
      rw [upd_ne hne]; exact f1
    · rw [List.map_append, Array.toList_push]
      exact rv.append (.cons rfl .nil)
    · by_cases hj : j < ts.length
      · rw [List.getElem?_append_left hj] at e
        obtain ⟨q1, x, y, q2, q3, q4⟩ := pr.at_ j t e
        exact ⟨q1, x, y, q2, q3, upd_old hTn q4⟩
      · rw [List.getElem?_append_right (by omega)] at e
        have e3 : j = i := by
          cases hh : j - ts.length with
          | zero => omega
          | succ k => rw [hh] at e; simp at e
        subst e3
        rw [hl, Nat.sub_self] at e
        cases e
        refine ⟨?_, _, _, hvx, hvy, upd_same⟩
        cases q : H0 s.heap.objs.size with
        | none => rfl
        | some u => rw [sm _ _ q] at hTn; cases hTn
/-- what list(zip(a, b)) gives -/
def tListZip (K : PySem.W.Frag) (ta : TA) : TE := fun σ H Q => ta σ H fun vs H1 => ∃ (a b : Addr) (xs ys : List V), vs = [.ref a, .ref b] ∧ SqL K H1 a xs ∧ SqL K H1 b ys ∧
  ∀ (ts : List Addr) (H2 : Hp) (p : Addr), Same H1 H2 → Prs H1 H2 ts xs ys → ts.length = min xs.length ys.length → H1 p = none → H2 p = some (.lst (ts.map V.ref)) → Q (.ref p) H2
theorem pe_listZip {e e2 : Expr} {ta : TA} {p pos p2 pos2 : Pos} (hc : X.calm = true) (hg : Gl X "list") (hm : X.mg "list" = none) (hgz : Gl X "zip") (hmz : X.mg "zip" = none) (ha : PA X [e, e2] ta)
    (hs : starEach [e, e2] X.env = (false, eval e X.env) :: starEach [e2] X.env := by rfl) (hpl : (backTo pos2 (starEach [e2] X.env)).any (·.1) = false := by rfl)
    (na : starEach [.Call (.Name "zip" p2) [e, e2] [] pos2] X.env = (false, eval (.Call (.Name "zip" p2) [e, e2] [] pos2) X.env) :: starEach [] X.env := by rfl) : PE X (.Call (.Name "list" p) [.Call (.Name "zip" p2) [e, e2] [] pos2] [] pos) (tListZip X.K ta) := by
  refine ⟨fun pins s σ H Q I h => ?_⟩
  refine Call_ (ld_blt I hg hm boot_list (PyProof.Rows.callWith_type1 (args_cons (Call_ (ld_blt I hgz hmz PyProof.Rows.boot_zip (PyProof.Rows.callWith_type1 (thn (ha.run pos2 pins s σ H _ I h) fun us s1 ⟨vs, H1, I1, r1, q1⟩ => ?_) hs hpl))) na) na))
  obtain ⟨a, b, xs, ys, ex, hqx, hqy, q⟩ := q1
  subst ex
  cases r1 with
  | cons r rr =>
    cases rr with
    | cons r' rr =>
      cases rr
      cases r
      cases r'
      obtain ⟨its, rv, p1, z1⟩ := I1.list hqx
      obtain ⟨its2, rv2, p2, z2⟩ := I1.list hqy
      have la : a < s1.heap.objs.size := p1.lt
      have lb : b < s1.heap.objs.size := p2.lt
      refine call_zip_2 p1.isList p2.isList fun h' hz hTI hTO h1 h2 hsz hk => args_nil ?_
      have I2 : Inv X pins σ H1 { s1 with heap := h' } := I1.kept (t' := s1.toks) hk
      have ev : EP X pins σ Q = fun u s' => ∃ v H', Inv X pins σ H' s' ∧ RelV v u ∧ Q v H' := rfl
      generalize hst : ({ heap := h', gens := s1.gens, drawn := s1.drawn, toks := s1.toks, os := s1.os } : Shared) = s2 at I2 ⊢
      have e2 : s2.heap = h' := by rw [← hst]
      have SN : h'.objs.size = s1.heap.objs.size + 5 := hsz
      refine callType_codes (Q₁ := fun obj s₁ => obj = .ref s2.heap.objs.size ∧ s₁ = { s2 with heap := s2.heap.push { cls := .type "list", data := .seq #[] } }) F.called_list (F.typeCall_list_1 _) F.entry_list_init
        (code_list_new _ ⟨rfl, rfl⟩) fun obj s₁ h₁ => ?_
      obtain ⟨rfl, rfl⟩ := h₁
      have hS : (s2.heap.push { cls := .type "list", data := .seq #[] }).get? s2.heap.objs.size = some { cls := .type "list", data := .seq #[] } := Heap.get?_push_size _ rfl
      have k1 : ∀ b o, s2.heap.get? b = some o → (s2.heap.push { cls := .type "list", data := .seq #[] }).get? b = some o := fun b o e => Heap.get?_push_of_some _ e
      have up : ∀ (h : Heap) (f : Obj → Obj), (∀ b o, s2.heap.get? b = some o → h.get? b = some o) → ∀ b o, s2.heap.get? b = some o → (h.update s2.heap.objs.size f).get? b = some o := fun h f q b o e =>
        (Heap.get?_update_other _ _ (Ne.symm (Nat.ne_of_lt (Heap.lt_size e)))).trans (q b o e)
      refine ⟨⟨_, hS, rfl⟩, F.args_list_init_2 _ _, ?_⟩
      show wpAny _ X.A.in1.in1 (do let old ← Builtin.List.listItems (.ref s2.heap.objs.size); Builtin.List.listUpdate (.ref s2.heap.objs.size) (fun _ => #[]); letGo old.toList.reverse; Builtin.List.listExtendWith (.ref s2.heap.objs.size) (.ref (s1.heap.objs.size + 4)) .none) _ _ _
      refine wpAny_bind ?_
      unfold Builtin.List.listItems
      refine wpAny_bind (wpAny_seqItems hS rfl (wpAny_pure ?_))
      show wpAny _ X.A.in1.in1 (updateSeq s2.heap.objs.size (fun _ => #[]) >>= fun _ => letGo (#[] : Array Value).toList.reverse >>= fun _ => Builtin.List.listExtendWith (.ref s2.heap.objs.size) (.ref (s1.heap.objs.size + 4)) .none) _ _ _
      refine wpAny_bind (wpAny_updateSeq hS rfl ?_)
      have hS2 := Heap.get?_update_self (Obj.mapSeq (fun _ => (#[] : Array Value))) hS rfl
      have k2 := up _ (Obj.mapSeq (fun _ => (#[] : Array Value))) k1
      refine wpAny_bind (wpAny_letGo ?_)
      unfold Builtin.List.listExtendWith
      have hz0 : IsZip s2.heap (s1.heap.objs.size + 4) (s1.heap.objs.size + 2) (s1.heap.objs.size + 3) .none := by rw [e2]; exact hz
      refine wpAny_bind (wpAny_typeOf (T := "zip") ⟨_, k2 _ _ hz0, rfl⟩ ?_)
      have hne : s2.heap.objs.size ≠ s1.heap.objs.size + 4 := by rw [e2, SN]; exact fun q => by have : (s1.heap.objs.size + 5 : Nat) = s1.heap.objs.size + 4 := q; omega
      have h1' : Builtin.List.listSameRef (.ref s2.heap.objs.size) (.ref (s1.heap.objs.size + 4)) = false := by simp [Builtin.List.listSameRef, hne]
      have h2' : (Value.type "zip" == Value.type "list") = false := by decide
      have h3' : (Value.type "zip" == Value.type "tuple") = false := by decide
      simp only [h1', h2', h3', Bool.or_false, Bool.false_eq_true, if_false]
      refine wpAny_bind (wpAny_pyIter_zip (k2 _ _ hz0) ?_)
      refine wpAny_bind (wpAny_holding ?_)
      unfold Builtin.List.listLengthHint
      refine wpAny_bind (wpAny_specialOf (T := "zip") ⟨_, k2 _ _ hz0, rfl⟩ zipNoLen ?_)
      show wpAny _ X.A.in1.in1 (specialOf (Value.ref (s1.heap.objs.size + 4)) (Str.ofString "__length_hint__") >>= _) _ _ _
      refine wpAny_bind (wpAny_specialOf (T := "zip") ⟨_, k2 _ _ hz0, rfl⟩ zipNoHint ?_)
      refine wpAny_pure ?_
      have key : ∀ (h : Heap) (c : Nat), (∀ b o, s2.heap.get? b = some o → h.get? b = some o) → h.get? s2.heap.objs.size = some (lstObj #[] c) →
          codeAny (model X.prog X.w) X.A.in1 (.builtin "list.extend.loop" ⟨[.ref s2.heap.objs.size, .ref (s1.heap.objs.size + 4), .none], []⟩) (wants (fun r s₂ => r = Value.none ∧ EP X pins σ Q (Value.ref s2.heap.objs.size) s₂) X.xe) { s2 with heap := h } := by
        intro h c k hSc
        have SN2 : s2.heap.objs.size = s1.heap.objs.size + 5 := by rw [e2]; exact SN
        have I3 : Inv X pins σ H1 { s2 with heap := h } := I2.kept (t' := s2.toks) k
        have kk : ∀ b o, h'.get? b = some o → h.get? b = some o := fun b o e => k b o (by rw [e2]; exact e)
        have fr : ∀ b, s1.heap.objs.size ≤ b → FpOk X pins H1 b := fun b hb => I1.fpOk hb (I1.hok.fresh hb)
        have off : ZOff (s1.heap.objs.size + 4) (s1.heap.objs.size + 2) (s1.heap.objs.size + 3) s1.heap.objs.size (s1.heap.objs.size + 1) a b s2.heap.objs.size := by
          rw [SN2]
          have la' : (a : Nat) < s1.heap.objs.size := la
          have lb' : (b : Nat) < s1.heap.objs.size := lb
          constructor <;> first | exact Nat.ne_of_gt (Nat.lt_of_lt_of_le la' (Nat.le_add_right _ _)) | exact Nat.ne_of_gt (Nat.lt_of_lt_of_le lb' (Nat.le_add_right _ _)) | (intro q; have q' : (s1.heap.objs.size + 5 : Nat) = _ := q; omega)
        refine zip_drain (X := X) (A := X.A.in1) (pins := pins) (σ := σ) (H0 := H1) (vx := xs) (vy := ys) (n := min xs.length ys.length) (xs := its.toArray) (ys := its2.toArray) (show X.A.in1.handled = none from I1.ok.hd hc) (PySem.W.ktu_apart s1.heap.objs.size a b la lb) off (by simpa using rv) (by simpa using rv2) rfl (Nat.le_trans (Nat.min_le_left _ _) z1)
          (fun H4 s4 ts acc c4 I4 fp4 hS4 rv4 hl4 sm4 pr4 => ?_) (min xs.length ys.length) 0 _ H1 [] #[] c rfl
          ⟨kk _ _ hTI, h1.at fun o e => kk _ o e, h2.at fun o e => kk _ o e, p1.isList.at fun o e => kk _ o (hk _ o e), p2.isList.at fun o e => kk _ o (hk _ o e), .inl ⟨kk _ _ hz, _, _, kk _ _ hTO⟩⟩ I3 (fun d hd => fr d ?_) hSc .nil rfl (Same.refl H1) ⟨fun j t e => by simp at e⟩
        · refine ⟨rfl, .ref s2.heap.objs.size, upd H4 s2.heap.objs.size (.lst (ts.map V.ref)), ?_, rfl, q ts _ s2.heap.objs.size (sm4.trans (same_new ?_)) ⟨fun j t e => ?_⟩ hl4 (I1.hok.fresh (by rw [SN2]; exact Nat.le_add_right _ _)) upd_same⟩
          · have fS := fp4 s2.heap.objs.size (by simp)
            have hSn : H4 s2.heap.objs.size = none := fS.1
            refine I4.call' (ch := [s2.heap.objs.size]) rfl ⟨fun b o q _ _ _ => q, fun b o q _ _ _ => ⟨o.slots, q⟩, fun b o q n hb => ?_, fun b o q _ => ⟨o, q⟩, fun b xs q => ?_, fun b o y q => ?_, fun b qs q => ⟨#[], ?_⟩⟩ (fun b u q => ?_) I4.bare (fun b hb => ?_)
            · rw [upd_ne fun q => hb (by rw [q]; exact List.mem_singleton.mpr rfl)]; exact n
            · rw [upd_ne (ne_of_none q hSn)]; exact q
            · rw [upd_ne (ne_of_none q hSn)]; exact q
            · rw [upd_ne (ne_of_none q hSn), q]; simp
            · by_cases hb : b = s2.heap.objs.size
              · subst hb
                rw [upd_same] at q
                cases q
                exact ⟨by rw [List.length_map, hl4]; exact Nat.le_trans (Nat.min_le_left _ _) z1, acc.toList, c4, rv4, by rw [hS4]⟩
              · rw [upd_ne hb] at q
                exact (I4.hok b u q).stay (fun _ _ _ z => z) (fun d z => by rw [upd_ne (ne_of_none z hSn)]; exact z) fun d xs z => by rw [upd_ne (ne_of_none z hSn)]; exact z
            · rw [List.mem_singleton.mp hb]
              exact ⟨fS.2.2.2.1, fS.2.1, fS.2.2.2.2.1, fS.2.2.2.2.2⟩
          · exact (fp4 s2.heap.objs.size (by simp)).1
          · obtain ⟨q1, x, y, q2, q3, q4⟩ := pr4.at_ j t e
            exact ⟨q1, x, y, q2, q3, upd_old (fp4 s2.heap.objs.size (by simp)).1 q4⟩
        · have hd' : d = s1.heap.objs.size + 4 ∨ d = s1.heap.objs.size + 3 ∨ d = s1.heap.objs.size ∨ d = s1.heap.objs.size + 1 ∨ d = s2.heap.objs.size := by simpa using hd
          rcases hd' with q | q | q | q | q
          · rw [q]; exact Nat.le_add_right _ _
          · rw [q]; exact Nat.le_add_right _ _
          · rw [q]; exact Nat.le_refl _
          · rw [q]; exact Nat.le_add_right _ _
          · rw [q, SN2]; exact Nat.le_add_right _ _
      simp only [Bool.true_or, if_true]
      refine wpAny_bind (wpAny_rule ?_)
      refine wpAny_bind ?_
      show wpAny _ _ (updateSeq s2.heap.objs.size (·.push .none) >>= fun _ => updateSeq s2.heap.objs.size (·.pop)) _ _ _
      refine wpAny_bind (wpAny_updateSeq hS2 rfl ?_)
      have hS3 := Heap.get?_update_self (Obj.mapSeq (·.push Value.none)) hS2 rfl
      refine wpAny_updateSeq (hz := by seq_fits) hS3 rfl ?_
      have hS4 := Heap.get?_update_self (Obj.mapSeq (·.pop)) hS3 rfl
      have k4 := up _ (Obj.mapSeq (·.pop)) (up _ (Obj.mapSeq (·.push Value.none)) k2)
      exact wpAny_pure ⟨plainId_quiet F.plain_extend_loop _, key _ _ k4 hS4⟩
end
theorem pe_listZipK (K : PySem.W.Frag) {X : Cx} {e e2 : Expr} {ta : TA} {p pos p2 pos2 : Pos} (hc : X.calm = true) (hg : Gl X "list") (hm : X.mg "list" = none) (hgz : Gl X "zip") (hmz : X.mg "zip" = none) (ha : PA X [e, e2] ta) (hK : X.K = K := by rfl)
    (hs : starEach [e, e2] X.env = (false, eval e X.env) :: starEach [e2] X.env := by rfl) (hpl : (backTo pos2 (starEach [e2] X.env)).any (·.1) = false := by rfl)
    (na : starEach [.Call (.Name "zip" p2) [e, e2] [] pos2] X.env = (false, eval (.Call (.Name "zip" p2) [e, e2] [] pos2) X.env) :: starEach [] X.env := by rfl) : PE X (.Call (.Name "list" p) [.Call (.Name "zip" p2) [e, e2] [] pos2] [] pos) (tListZip K ta) :=
  hK ▸ pe_listZip hc hg hm hgz hmz ha hs hpl na
section
variable {K : PySem.W.Frag} {σ : L2.St} {H : Hp} {Q : VK} {ta : TA}
theorem r_lzip (h : ta σ H fun vs H1 => ∃ (a b : Addr) (xs ys : List V), vs = [.ref a, .ref b] ∧ SqL K H1 a xs ∧ SqL K H1 b ys ∧
  ∀ (ts : List Addr) (H2 : Hp) (p : Addr), Same H1 H2 → Prs H1 H2 ts xs ys → ts.length = min xs.length ys.length → H1 p = none → H2 p = some (.lst (ts.map V.ref)) → Q (.ref p) H2) : tListZip K ta σ H Q := h
theorem r_listG {tg : TGen} (h : tg σ H fun out H2 => ∀ p, H2 p = none → Q (.ref p) (upd H2 p (.lst out))) : tListG tg σ H Q := h
theorem r_callGn {sp : SpG} {dvs : List V} {E : XK} {cont : List V → Hp → Prop} (h : ta σ H fun vs H1 => sp (vs ++ dvs) H1 cont E) : tCallG sp dvs E ta σ H cont := h
end
end Xk
local macro_rules | `(tactic| fail "one") => `(tactic| with_reducible first | refine Xk.r_lzip ?_ | refine Xk.r_listG ?_ | refine Xk.r_callGn ?_)

set_option Elab.async false
set_option linter.all false
set_option maxRecDepth 100000
namespace Xk
open PySem PySem.Spec PyProof.Rows L2
/-- a new object; the heap behind it is any that keeps all and has it -/
def New (Q : VK) (H : Hp) (o : HO) : Prop := ∀ p, H p = none → Q (.ref p) (upd H p o)
section
variable {K : PySem.W.Frag} {σ : L2.St} {H : Hp} {Q : VK} {o : HO} {tA : TA} {te : TE} {p b : Addr} {xs ys : List V} {ns ms : List Int}
theorem new_ (h : ∀ (p : Addr) (H' : Hp), H p = none → Same H H' → H' p = some o → Q (.ref p) H') : New Q H o := fun p np => h p _ np (same_new np) upd_same
theorem n_lst (h : tA σ H fun xs H1 => xs.length ≤ sizeLine ∧ New Q H1 (.lst xs)) : tLst tA σ H Q := h
theorem n_tup (h : tA σ H fun xs H1 => xs.length ≤ sizeLine ∧ New Q H1 (.tup xs)) : tTup tA σ H Q := h
theorem n_slL {lo hi : Option Int} (h : SqL K H p xs) (q : New Q H (.lst (cutV xs lo hi))) : rSlL K (.ref p) lo hi H Q := ⟨p, xs, rfl, h, q⟩
theorem n_slF {z : Int} {a : Nat} (h : SqL K H p (ns.map V.int)) (e : z = (a : Int)) (q : New Q H (.lst ((ns.drop a).map V.int))) : rSlL K (.ref p) (some z) none H Q :=
  n_slL h (by rw [cut_from e, ← List.map_drop]; exact q)
theorem n_slT {z : Int} {a : Nat} (h : SqL K H p (ns.map V.int)) (e : z = (a : Int)) (q : New Q H (.lst ((ns.take a).map V.int))) : rSlL K (.ref p) none (some z) H Q :=
  n_slL h (by rw [cut_to e, ← List.map_take]; exact q)
theorem n_slM {z y : Int} {a c : Nat} (h : SqL K H p (ns.map V.int)) (e : z = (a : Int)) (g : y = (c : Int)) (q : New Q H (.lst (((ns.drop a).take (c - a)).map V.int))) : rSlL K (.ref p) (some z) (some y) H Q :=
  n_slL h (by rw [cut_any e g, ← List.map_drop, ← List.map_take]; exact q)
theorem n_listOf (h : SqL K H p xs) (q : New Q H (.lst xs)) : rListOf K [.ref p] H Q := ⟨p, xs, rfl, .inl h, q⟩
theorem n_lrg {tr : L2.St → Hp → (Int → Int → Hp → Prop) → Prop} (h : tr σ H fun a b H1 => RgOk a b ∧ New Q H1 (.lst (rgV a b))) : tLstRg tr σ H Q := h
theorem n_revL (h : te σ H fun x H1 => ∃ a xs, x = .ref a ∧ SqL K H1 a xs ∧ New Q H1 (.lst xs.reverse)) : tRevL K te σ H Q := h
theorem n_cat (h : H p = some (.lst xs)) (g : H b = some (.lst ys)) (hz : xs.length + ys.length ≤ sizeLine) (q : New Q H (.lst (xs ++ ys))) : rCat (.ref p) (.ref b) H Q := ⟨p, b, xs, ys, rfl, rfl, h, g, hz, q⟩
theorem n_catI (h : H p = some (.lst (ns.map V.int))) (g : H b = some (.lst (ms.map V.int))) (hz : ns.length + ms.length ≤ 16777216) (q : New Q H (.lst ((ns ++ ms).map V.int))) : rCat (.ref p) (.ref b) H Q :=
  n_cat h g (by rw [List.length_map, List.length_map]; exact hz) (by rw [← List.map_append]; exact q)
theorem s_trans {H0 H1 H2 : Hp} (b : Same H1 H2) (a : Same H0 H1) : Same H0 H2 := a.trans b
theorem s_new {H0 H : Hp} {a : Addr} {o : HO} (np : H a = none) (s : Same H0 H) : Same H0 (upd H a o) := s.trans (same_new np)
theorem sq_new {K : PySem.W.Frag} {H : Hp} {a b : Addr} {o : HO} {xs : List V} (np : H a = none) (s : SqL K H b xs) : SqL K (upd H a o) b xs := (same_new np).seq s
theorem ne_n {H : Hp} {a b : Addr} {u : HO} (n : H b = none) (h : H a = some u) : a ≠ b := ne_of_none h n
theorem ne_n' {H : Hp} {a b : Addr} {u : HO} (n : H a = none) (h : H b = some u) : a ≠ b := (ne_of_none h n).symm
theorem c_chain {r r' : R2} {ta tb tc : TE} {σ : L2.St} {H : Hp} {Q : VK} (h : ta σ H fun x H1 => tb σ H1 fun y H2 => r x y H2 fun z H3 => ∃ k, z = .bl k ∧ (if k = true then tc σ H3 fun w' H4 => r' y w' H4 Q else Q (.bl false) H3)) : tChain r r' ta tb tc σ H Q := h
theorem n_rep {l : Addr} {n : Nat} {zs : List V} (h : H l = some (.lst zs)) (hn : n ≤ 1000000) (hz : zs.length * n ≤ 16777216) (q : New Q H (.lst (List.replicate n zs).flatten)) : rRep (.ref l) (.int (n : Int)) H Q :=
  ⟨l, n, zs, rfl, rfl, h, by omega, by omega, by rw [Int.toNat_natCast]; exact hz, fun p np => by rw [Int.toNat_natCast]; exact q p np⟩
theorem new_map {xs : List Int} {u : List V} (e : u = xs.map V.int) (h : New Q H (.lst (xs.map V.int))) : New Q H (.lst u) := e ▸ h
end
end Xk
/-- what stands in a heap, and what keeps: back along the one step that made each heap -/
local macro_rules | `(tactic| fail "kp") => `(tactic| with_reducible first
  | assumption | exact L2.upd_same | exact L2.Same.refl _
  | (apply Xk.same_to; assumption; fail "kp")
  | (apply L2.Same.seq; assumption; fail "kp")
  | (apply Xk.sx_to; assumption; fail "kpn"; fail "kp")
  | (apply Xk.upd_old; assumption; fail "kp")
  | (apply Xk.upd_to; fail "kpn"; fail "kp")
  | (apply Xk.s_trans; assumption; fail "kp")
  | (apply Xk.s_new; assumption; fail "kp")
  | (apply Xk.sq_new; assumption; fail "kp")
  | (apply Xk.sqT_same; assumption; fail "kp")
  | (apply Xk.sq; fail "kp")
  | (apply Xk.sqT; fail "kp"))
/-- another address -/
local macro_rules | `(tactic| fail "kpn") => `(tactic| with_reducible first | assumption | (apply Ne.symm; assumption) | (apply Xk.ne_n; assumption; fail "kp") | (apply Xk.ne_n'; assumption; fail "kp"))
local macro_rules | `(tactic| fail "ww1") => `(tactic| with_reducible first
  | refine Xk.c_chain ?_ | refine Xk.n_lst ?_ | refine Xk.n_tup ?_ | refine Xk.n_lrg ?_ | refine Xk.n_revL ?_)
local macro_rules | `(tactic| fail "ww2") => `(tactic| first
  | ((with_reducible refine' Xk.r_var ?hv ?_); (case hv => exact rfl))
  | ((with_reducible refine' Xk.r_aug ?hv ?_); (case hv => exact rfl))
  | ((with_reducible refine' Xk.r_ixL ?hv ?hw ?_); (case hv => fail "kp"); (case hw => fail "at"))
  | ((with_reducible refine' Xk.r_setL ?hv ?hw ?_); (case hv => fail "kp"); (case hw => fail "ix"))
  | ((with_reducible refine' Xk.r_gtup ?hv ?hw ?_); (case hv => exact Xk.sqT (by fail "kp")); (case hw => exact rfl))
  | ((with_reducible refine' ⟨Xk.ty_list (K := _) (xs := _) ?hv, ?_⟩); (case hv => fail "kp"))
  | ((with_reducible refine' Xk.r_append ?hv ?hw ?_); (case hv => fail "kp"); (case hw => fail "sd"))
  | ((with_reducible refine' Xk.r_I (C := fun _ j => 0 < j) ?hv ?_); (case hv => (first | omega | (show (0 : Int) < _; omega) | decide)))
  | ((with_reducible refine' Xk.r_len ?hv ?_); (case hv => fail "kp"))
  | ((with_reducible refine' Xk.n_listOf ?hv ?_); (case hv => fail "kp"))
  | ((with_reducible refine' Xk.r_I (C := Xk.CPowW) ?hv ?_); (case hv => exact ⟨by decide, by decide⟩))
  | (with_reducible refine ⟨Xk.szL (by with_unfolding_all rfl), ?_⟩)
  | ((with_reducible refine' ⟨_, _, rfl, ?hv, ?_⟩); (case hv => ((with_reducible show L2.SqL _ _ _ _); fail "kp")))
  | (with_reducible refine ⟨_, _, _, _, rfl, Xk.sq (by fail "kp"), Xk.sq (by fail "kp"), ?_⟩)
  | ((with_reducible refine' ⟨⟨_, ?hv⟩, ?_⟩); (case hv => ((with_reducible show L2.SqL _ _ _ _); fail "kp")))
  | (with_reducible refine Or.inl ⟨_, rfl, ?_⟩) | (with_reducible refine Or.inr ⟨_, rfl, ?_⟩)
  | (with_reducible refine ⟨_, _, rfl, rfl, ?_⟩) | (with_reducible refine ⟨_, rfl, ?_⟩) | (with_reducible refine ⟨_, _, rfl, ?_⟩))
local macro_rules | `(tactic| fail "ww") => `(tactic| repeat (first | fail "ww1" | fail "one" | fail "ww2"))

set_option Elab.async false
set_option linter.all false
set_option maxRecDepth 100000
namespace Xk
open PySem PySem.Spec PyProof.Rows L2 GenW
/-! ### enumerate(xs, start=c) -/
/-- the list at a, each item with its number from c on in a new pair -/
def Iteo (K : PySem.W.Frag) (a : Addr) (c : Int) : It where
  go i H := ∃ (xs : List V) (x : V), SqL K H a xs ∧ xs[i]? = some x
  yld i H v H' := ∃ T x, v = .ref T ∧ H T = none ∧ H' = upd H T (.tup [.int (c + (i : Nat)), x]) ∧ ∀ xs, SqL K H a xs → xs[i]? = some x
  stop i H := ∃ xs : List V, SqL K H a xs ∧ xs.length = i
theorem turn_enumS {P : Program} {w : World} {K : PySem.W.Frag} {elts : List Expr} {kk : Nat} {tpos : Pos} (a e it : Addr) (c : Int) :
    Turn P w K (.Tuple elts kk tpos) (Iteo K a c) [e, it] e (fun i h => (∃ was, IsEnum h e it (c + ((i : Nat) : Int)) was) ∧ h.IsListIter it a i ∧ e ≠ it) where
  mem := List.mem_cons_self
  obj := by
    rintro i h ⟨⟨was, he⟩, ⟨o, ho, _, hd⟩, _⟩ b hb
    rcases List.mem_cons.mp hb with z | z
    · subst z; exact ⟨_, he, fun v q => nomatch q⟩
    · rw [List.mem_singleton.mp z]; exact ⟨o, ho, fun v q => by rw [hd] at q; cases q⟩
  keep := by
    rintro i h h' ⟨⟨was, he⟩, hi, hne⟩ k
    exact ⟨⟨was, k e (by simp) _ he⟩, hi.at fun o q => k it (by simp) o q, hne⟩
  item := by
    intro X hP hw hK hc i pins s σ H E I hf st hg
    subst hP hw hK
    obtain ⟨⟨was, he⟩, hit, hne⟩ := st
    obtain ⟨xs, x, hq, hx⟩ := hg
    obtain ⟨its, rv, p, _⟩ := I.list hq
    obtain ⟨u, hu, ru⟩ := rv.get hx
    have pl := p.isList
    have hel : e < s.heap.objs.size := Heap.lt_size he
    have hil : it < s.heap.objs.size := by obtain ⟨_, q, _⟩ := hit; exact Heap.lt_size q
    have hai : a ≠ it := by
      intro z; subst z
      obtain ⟨o1, e1, c1, _⟩ := hit
      obtain ⟨o2, e2, c2, _⟩ := pl
      rw [e1] at e2; cases e2
      rw [c1] at c2
      exact absurd (Value.type.inj c2) (by decide)
    have hea : e ≠ a := by
      intro z; subst z
      obtain ⟨o2, e2, c2, _⟩ := pl
      rw [he] at e2; cases e2
      exact absurd (Value.type.inj c2) (by decide)
    have hul : its.toArray[i]? = some u := by simpa using hu
    have hsz : i < its.toArray.size := (Array.getElem?_eq_some_iff.mp hul).1
    refine wpAny_pyNext_enum_itemC (Draws.list (prog := X.prog) (w := X.w) (A := X.A.in1) (I.ok.hd hc) it a hai its.toArray) he ⟨hit, pl⟩ hsz hne (by simp [hne, hea]) fun y h' tk hy ho st' hT hz hk => ?_
    have ey : y = u := by
      have hy' : its.toArray[i]? = some y := hy
      rw [hul] at hy'; exact (Option.some.inj hy').symm
    subst ey
    refine ⟨_, rfl, wpAny_letOwnedTupleGo_enum (s := { s with heap := h', toks := tk + 1 }) ho fun h'' he' sb => ?_⟩
    have hT2 := (sb.2 _ (Nat.ne_of_gt hel)).trans hT
    have new : ObjOk X.prog X.w (upd H s.heap.objs.size (.tup [.int (c + (i : Nat)), x])) h'' s.heap.objs.size (.tup [.int (c + (i : Nat)), x]) :=
      ⟨szL rfl, [.int (c + (i : Nat)) tk, y], .cons ⟨_, rfl⟩ (.cons ru .nil), ⟨_, hT2, rfl, _, rfl⟩⟩
    have I1 : Inv X pins σ (upd H s.heap.objs.size (.tup [.int (c + (i : Nat)), x])) { s with heap := h'', toks := tk + 1 } := by
      refine I.turnedNew (ch := [e, it]) (fun b ob hb q => ?_) hf (Nat.le_refl _) new
      have b1 : b ≠ e := fun z => hb (by simp [z])
      have b2 : b ≠ it := fun z => hb (by simp [z])
      exact (sb.2 b b1).trans (hk b ob b1 b2 q)
    refine ⟨.ref s.heap.objs.size, _, I1, rfl, ⟨_, x, rfl, I.hok.fresh (Nat.le_refl _), rfl, fun ys hy => by rw [I.list_inj hy hq]; exact hx⟩, ⟨⟨y, ?_⟩, st'.1.at fun o q => (sb.2 it (Ne.symm hne)).trans q, hne⟩, fun b hb => ?_⟩
    · rw [show c + ((i + 1 : Nat) : Int) = c + (i : Int) + 1 by omega]; exact he'
    · have hb' : b < s.heap.objs.size := by
        rcases List.mem_cons.mp hb with z | z
        · rw [z]; exact hel
        · rw [List.mem_singleton.mp z]; exact hil
      rw [upd_ne (Nat.ne_of_lt hb')]
      exact (hf b hb).1
  done := by
    intro X hP hw hK hc i pins s σ H E I hf st hg
    subst hP hw hK
    obtain ⟨⟨was, he⟩, hit, hne⟩ := st
    obtain ⟨xs, hq, hx⟩ := hg
    obtain ⟨its, rv, p, _⟩ := I.list hq
    obtain ⟨f0, f1, f2, f3, f4, f5⟩ := hf it (by simp)
    have hl : its.toArray.size = i := by have := rv.length; simp; omega
    have pl := p.isList
    have hai : a ≠ it := by
      intro z; subst z
      obtain ⟨o1, e1, c1, _⟩ := hit
      obtain ⟨o2, e2, c2, _⟩ := pl
      rw [e1] at e2; cases e2
      rw [c1] at c2
      exact absurd (Value.type.inj c2) (by decide)
    refine wpAny_pyNext_enum_endD (Draws.list (prog := X.prog) (w := X.w) (A := X.A.in1) (I.ok.hd hc) it a hai its.toArray) he ⟨by rw [hl]; exact hit, pl⟩ fun h' eb => ⟨rfl, I.turned (t' := s.toks) (fun b o hb q => eb b o hb q) f0 f1 f3 f4 f5⟩
  self := fun A i s Q E st h => let ⟨⟨_, he⟩, _⟩ := st; wpAny_pyIter_enum he h
/-- what a walk over enumerate(xs, start=c) asks -/
def iEnumS (K : PySem.W.Frag) (ta tk : TA) : TI := fun σ H R => ta σ H fun vs H1 => tk σ H1 fun zs H2 => ∃ (a : Addr) (xs : List V) (c : Int), vs = [.ref a] ∧ zs = [.int c] ∧ SqL K H2 a xs ∧ -1000000 ≤ c ∧ c ≤ 1000000 ∧ R (Iteo K a c) H2
theorem pi_enumS {X : Cx} {e : Expr} {kws : List Keyword} {ta tk : TA} {p pos tpos : Pos} {elts : List Expr} {kk : Nat} (hg : Gl X "enumerate") (hm : X.mg "enumerate" = none) (ha : PA X [e] ta) (hk : PK X kws tk)
    (hall : (backToKw pos (keywordEach kws X.env)).all (·.1.isSome) = true := by rfl) (hks : (backToKw pos (keywordEach kws X.env)).filterMap (·.1) = [Str.ofString "start"] := by rfl)
    (hpl : ((backTo pos (starEach [e] X.env)).any (·.1) || (backToKw pos (keywordEach kws X.env)).any (·.1.isNone)) = false := by rfl) (hs : backTo pos (starEach [e] X.env) = [(false, eval e X.env)] := by rfl) :
    PI X (.Tuple elts kk tpos) (.Call (.Name "enumerate" p) [e] kws pos) (iEnumS X.K ta tk) := by
  refine ⟨fun pins s σ H R I h => ?_⟩
  refine wpAny_Call_Name_kw (ld_blt I hg hm boot_enumerate ?_)
  have ha' := fun Q hQ => ha.run pos pins s σ H Q I hQ
  rw [hs] at ha' hpl ⊢
  refine PySem.W.callWith_of (P := fun _ => True) hpl (fun h _ => ⟨.machine, .inr (.inl rfl), .of_pure rfl⟩) (evalArgs_kwB hall (thn (ha' _ h) fun us s1 ⟨vs, H1, I1, r1, q1⟩ => thn (hk.run pos pins s1 σ H1 _ I1 q1) fun ws s2 ⟨zs, H2, I2, r2, q2⟩ => ⟨trivial, ?_⟩))
  rw [hks]
  obtain ⟨a, xs, c, ex, ez, hq, c0, c1, q⟩ := q2
  subst ex ez
  cases r1 with
  | cons r rr =>
    cases rr
    cases r
    cases r2 with
    | cons r' rr' =>
      cases rr'
      obtain ⟨t, rfl⟩ := r'
      obtain ⟨its, rv, p', hz⟩ := I2.list hq
      refine enum_begins_start (begins_list a its.toArray) p'.isList (by omega) (by omega) fun h' he ho hsz hkp => wpAny_pyIter_enum he ?_
      have I3 : Inv X pins σ H2 { s2 with heap := h' } := I2.kept (t' := s2.toks) hkp
      refine ⟨s2.heap.objs.size + 1, [s2.heap.objs.size + 1, s2.heap.objs.size], _, _, H2, rfl, I3, turn_enumS a _ _ c, ⟨⟨.none, by simpa using he⟩, ⟨_, ho, rfl, rfl⟩, Nat.succ_ne_self _⟩, fun b hb => ?_, q⟩
      have hle : s2.heap.objs.size ≤ b := by
        rcases List.mem_cons.mp hb with z | z
        · rw [z]; exact Nat.le_add_right _ _
        · rw [List.mem_singleton.mp z]; exact Nat.le_refl _
      exact I2.fpOk hle (I2.hok.fresh hle)
theorem pi_enumSK {X : Cx} (K : PySem.W.Frag) {e : Expr} {kws : List Keyword} {ta tk : TA} {p pos tpos : Pos} {elts : List Expr} {kk : Nat} (hg : Gl X "enumerate") (hm : X.mg "enumerate" = none) (ha : PA X [e] ta) (hk : PK X kws tk) (hK : X.K = K := by rfl)
    (hall : (backToKw pos (keywordEach kws X.env)).all (·.1.isSome) = true := by rfl) (hks : (backToKw pos (keywordEach kws X.env)).filterMap (·.1) = [Str.ofString "start"] := by rfl)
    (hpl : ((backTo pos (starEach [e] X.env)).any (·.1) || (backToKw pos (keywordEach kws X.env)).any (·.1.isNone)) = false := by rfl) (hs : backTo pos (starEach [e] X.env) = [(false, eval e X.env)] := by rfl) :
    PI X (.Tuple elts kk tpos) (.Call (.Name "enumerate" p) [e] kws pos) (iEnumS K ta tk) := hK ▸ pi_enumS hg hm ha hk hall hks hpl hs
section
variable {K : PySem.W.Frag} {σ : L2.St} {H : Hp} {ta tk : TA} {R : L2.It → Hp → Prop} {a : Addr} {xs : List V} {c : Int}
theorem r_iEnumS (h : ta σ H fun vs H1 => tk σ H1 fun zs H2 => ∃ (a : Addr) (xs : List V) (c : Int), vs = [.ref a] ∧ zs = [.int c] ∧ SqL K H2 a xs ∧ -1000000 ≤ c ∧ c ≤ 1000000 ∧ R (Iteo K a c) H2) : iEnumS K ta tk σ H R := h
theorem walk_enumS : Walk (Iteo K a c) xs.length (fun H => SqL K H a xs) (YPair (fun i => some (.int (c + (i : Nat)))) (fun i => xs[i]?)) :=
  ⟨fun i _ hi q => ⟨xs, xs[i], q, by simp [hi]⟩, fun _ q => ⟨xs, q, rfl⟩, fun i H v H' _ q ⟨T, x, e1, e2, e3, e4⟩ => ⟨T, _, x, e1, e2, e3, rfl, e4 xs q⟩⟩
end
end Xk
local macro_rules | `(tactic| fail "ww1") => `(tactic| with_reducible refine Xk.r_iEnumS ?_)

set_option Elab.async false
set_option linter.all false
set_option maxRecDepth 100000
namespace Xk
open PySem PySem.Spec PyProof.Rows L2
/-! ### a op1 b op2 c op3 d -/
section
variable {X : Cx} {a b c d : Expr} {ta tb tc td : TE} {pos : Pos}
def tChain3 (r r' r'' : R2) (ta tb tc td : TE) : TE := fun σ H Q => ta σ H fun x H1 => tb σ H1 fun y H2 => r x y H2 fun z H3 => ∃ k, z = .bl k ∧
  (if k = true then tc σ H3 fun w H4 => r' y w H4 fun z2 H5 => ∃ k2, z2 = .bl k2 ∧ (if k2 = true then td σ H5 fun u H6 => r'' w u H6 Q else Q (.bl false) H5) else Q (.bl false) H3)
theorem pt_chain3 {op op' op2 : CmpOp} {r r' r'' : R2} (ho : OpR X (compareOp op) r) (ho' : OpR X (compareOp op') r') (ho2 : OpR X (compareOp op2) r'') (ha : PE X a ta) (hb : PE X b tb) (hc : PE X c tc) (hd : PE X d td)
    (hm : lastMarks [op, op', op2] [b, c, d] = false := by with_unfolding_all rfl) : PT X (.Compare a [op, op', op2] [b, c, d] pos) (tTest (tChain3 r r' r'' ta tb tc td)) := by
  refine ⟨fun pins s σ H Q I h => ?_⟩
  refine isTrue_chain (thn (ha.run pins s σ H _ I h) fun v s1 ⟨x, H1, I1, r1, q1⟩ => test_link (thn (hb.run pins s1 σ H1 _ I1 q1) fun u s2 ⟨y, H2, I2, r2, q2⟩ =>
    thn (ho pins s2 σ H2 x y v u _ I2 r1 r2 q2) fun d s3 ⟨z, H3, I3, r3, k, e, q3⟩ => ?_)) hm
  subst e
  cases r3
  refine wpAny_truthy_bool ?_
  cases k with
  | false =>
    obtain ⟨k', e', q'⟩ := q3
    cases e'
    exact ite_ff ⟨H3, I3, q'⟩
  | true =>
    refine ite_tt (test_link (thn (hc.run pins s3 σ H3 _ I3 q3) fun w' s4 ⟨z', H4, I4, r4, q4⟩ => thn (ho' pins s4 σ H4 y z' u w' _ I4 r2 r4 q4) fun d' s5 ⟨z2, H5, I5, r5, k2, e2, q5⟩ => ?_))
    subst e2
    cases r5
    refine wpAny_truthy_bool ?_
    cases k2 with
    | false =>
      obtain ⟨k', e', q'⟩ := q5
      cases e'
      exact ite_ff ⟨H5, I5, q'⟩
    | true =>
      refine ite_tt (test_last (thn (hd.run pins s5 σ H5 _ I5 q5) fun w2 s6 ⟨z6, H6, I6, r6, q6⟩ => thn (ho2 pins s6 σ H6 z' z6 w' w2 _ I6 r4 r6 q6) fun d' s7 ⟨z3, H7, I7, r7, k3, e3, q7⟩ => ?_))
      subst e3
      cases r7
      exact wpAny_truthy_bool ⟨H7, I7, q7⟩
theorem pe_chain3 {op op' op2 : CmpOp} {r r' r'' : R2} (ho : OpR X (compareOp op) r) (ho' : OpR X (compareOp op') r') (ho2 : OpR X (compareOp op2) r'') (ha : PE X a ta) (hb : PE X b tb) (hc : PE X c tc) (hd : PE X d td)
    (hm : lastMarks [op, op', op2] [b, c, d] = false := by with_unfolding_all rfl) : PE X (.Compare a [op, op', op2] [b, c, d] pos) (tChain3 r r' r'' ta tb tc td) := by
  refine ⟨fun pins s σ H Q I h => ?_⟩
  refine Compare_chain (thn (ha.run pins s σ H _ I h) fun v s1 ⟨x, H1, I1, r1, q1⟩ => chain_link (thn (hb.run pins s1 σ H1 _ I1 q1) fun u s2 ⟨y, H2, I2, r2, q2⟩ =>
    thn (ho pins s2 σ H2 x y v u _ I2 r1 r2 q2) fun d s3 ⟨z, H3, I3, r3, k, e, q3⟩ => ?_)) hm
  subst e
  cases r3
  refine wpAny_truthy_bool ?_
  cases k with
  | false => exact ite_ff ⟨.bl false, H3, I3, rfl, q3⟩
  | true =>
    refine ite_tt (chain_link (thn (hc.run pins s3 σ H3 _ I3 q3) fun w' s4 ⟨z', H4, I4, r4, q4⟩ => thn (ho' pins s4 σ H4 y z' u w' _ I4 r2 r4 q4) fun d' s5 ⟨z2, H5, I5, r5, k2, e2, q5⟩ => ?_))
    subst e2
    cases r5
    refine wpAny_truthy_bool ?_
    cases k2 with
    | false => exact ite_ff ⟨.bl false, H5, I5, rfl, q5⟩
    | true => exact ite_tt (chain_last (thn (hd.run pins s5 σ H5 _ I5 q5) fun w2 s6 ⟨z6, H6, I6, r6, q6⟩ => ho2 pins s6 σ H6 z' z6 w' w2 Q I6 r4 r6 q6))
theorem c_chain3 {r r' r'' : R2} {σ : L2.St} {H : Hp} {Q : VK} (h : ta σ H fun x H1 => tb σ H1 fun y H2 => r x y H2 fun z H3 => ∃ k, z = .bl k ∧
  (if k = true then tc σ H3 fun w H4 => r' y w H4 fun z2 H5 => ∃ k2, z2 = .bl k2 ∧ (if k2 = true then td σ H5 fun u H6 => r'' w u H6 Q else Q (.bl false) H5) else Q (.bl false) H3)) : tChain3 r r' r'' ta tb tc td σ H Q := h
end
end Xk
local macro_rules | `(tactic| fail "ww1") => `(tactic| with_reducible refine Xk.c_chain3 ?_)

set_option Elab.async false
set_option linter.all false
set_option maxRecDepth 100000
namespace Xk
open PySem PySem.Spec PyProof.Rows L2
/-! ### xs[l:u:o], any three parts -/
/-- the places that a slice picks -/
def pickIx (n : Nat) (l u o : Option Int) : List Nat := sliceRange (sliceBounds l u o n).1 (sliceBounds l u o n).2.1 (sliceBounds l u o n).2.2
def pickV {α : Type} (xs : List α) (l u o : Option Int) : List α := (pickIx xs.length l u o).filterMap fun i => xs[i]?
theorem pick_map {α β : Type} (f : α → β) (xs : List α) (l u o : Option Int) : pickV (xs.map f) l u o = (pickV xs l u o).map f := by
  unfold pickV
  rw [List.length_map, List.map_filterMap]
  congr 1
  funext i
  rw [List.getElem?_map]
theorem vals_opt : ∀ {xs : List V} {its : List Value}, Vals xs its → ∀ i : Nat, (xs[i]? = none ∧ its[i]? = none) ∨ ∃ x u, xs[i]? = some x ∧ its[i]? = some u ∧ RelV x u
  | _, _, .nil, _ => .inl ⟨rfl, rfl⟩
  | _, _, .cons r _, 0 => .inr ⟨_, _, rfl, rfl, r⟩
  | _, _, .cons _ t, i + 1 => vals_opt t i
theorem vals_pick {xs : List V} {its : List Value} (r : Vals xs its) : ∀ ix : List Nat, Vals (ix.filterMap fun i => xs[i]?) (ix.filterMap fun i => its[i]?)
  | [] => .nil
  | i :: t => by
    have ih := vals_pick r t
    rcases vals_opt r i with ⟨e1, e2⟩ | ⟨x, u, e1, e2, e3⟩
    · rw [List.filterMap_cons_none e1, List.filterMap_cons_none e2]
      exact ih
    · rw [List.filterMap_cons_some e1, List.filterMap_cons_some e2]
      exact .cons e3 ih
def tSl3 (K : PySem.W.Frag) (te : TE) (tl tu ts : TO) : TE := fun σ H Q => te σ H fun x H1 => tl σ H1 fun l H2 => tu σ H2 fun u H3 => ts σ H3 fun o H4 =>
  ∃ (a : Addr) (xs : List V), x = .ref a ∧ SqL K H4 a xs ∧ o ≠ some 0 ∧ (pickV xs l u o).length ≤ 16777216 ∧ New Q H4 (.lst (pickV xs l u o))
section
variable {X : Cx} (K : PySem.W.Frag) {e : Expr} {te : TE} {lo hi st : Option Expr} {tl tu ts : TO} {p3 pos : Pos}
theorem pe_sl3K (he : PE X e te) (hl : PO X lo tl) (hu : PO X hi tu) (hs : PO X st ts) (hsub : ∀ x y : Value, subscripted (.Slice lo hi st p3) false x y = operate [x, y] (getItem x y) := by intro _ _; with_unfolding_all rfl) (hK : X.K = K := by rfl) : PE X (.Subscript e (.Slice lo hi st p3) pos) (tSl3 K te tl tu ts) := by
  subst hK
  refine ⟨fun pins s σ H Q I z => Subscript_ (thn (he.run pins s σ H _ I z) fun v s1 ⟨x, H1, I1, r1, q1⟩ => wpAny_Slice (thn (hl.run pins s1 σ H1 _ I1 q1) fun vl s2 ⟨l, H2, I2, pl, q2⟩ =>
    thn (hu.run pins s2 σ H2 _ I2 q2) fun vu s3 ⟨u, H3, I3, pu, q3⟩ => thn (hs.run pins s3 σ H3 _ I3 q3) fun vs s4 ⟨o, H4, I4, ps, q4⟩ => ?_))⟩
  obtain ⟨a, xs, ex, hx, h0, hz', q⟩ := q4
  subst ex
  cases r1
  have J := I4.kept (t' := s4.toks) (h' := s4.heap.push { cls := .type "slice", data := .fields #[vl, vu, vs] }) fun b ob y => Heap.get?_push_of_some _ y
  obtain ⟨its, r, pl5, hz⟩ := J.list hx
  have hlen := r.length
  show wpAny (model X.prog X.w) X.A (subscriptTail e (.Slice lo hi st p3) (.ref a) (.ref s4.heap.objs.size)) (EP X pins σ Q) X.xe
    { s4 with heap := s4.heap.push { cls := .type "slice", data := .fields #[vl, vu, vs] } }
  refine tail_any (ops := [.ref a, .ref s4.heap.objs.size]) pl5.isList.typeIs PySem.slot_list_getitem.lookup ?_ (hsub _ _)
  refine wpAny_getItem_list_slice pl5.isList (Heap.IsSliceOf.new _ vl vu vs) pl pu ps h0 ?_ (by rw [List.size_toArray]; omega)
  have rp : Vals (pickV xs l u o) (slicePick its.toArray l u o).toList := by
    have e1 := vals_pick r (pickIx xs.length l u o)
    unfold slicePick
    unfold pickV
    rw [hlen] at e1 ⊢
    simpa [pickIx] using e1
  refine ⟨.ref _, _, J.laid (t' := s4.toks) (o := .lst (pickV xs l u o)) (fun b ob y => Heap.get?_push_of_some _ y) (Nat.le_refl _) ?_, rfl, q _ (J.hok.fresh (Nat.le_refl _))⟩
  exact ⟨hz', _, 0, rp, Heap.get?_push_size _ rfl⟩
end
theorem n_sl3 {K : PySem.W.Frag} {σ : L2.St} {H : Hp} {Q : VK} {te : TE} {tl tu ts : TO} (h : te σ H fun x H1 => tl σ H1 fun l H2 => tu σ H2 fun u H3 => ts σ H3 fun o H4 =>
  ∃ (a : Addr) (xs : List V), x = .ref a ∧ SqL K H4 a xs ∧ o ≠ some 0 ∧ (pickV xs l u o).length ≤ 16777216 ∧ New Q H4 (.lst (pickV xs l u o))) : tSl3 K te tl tu ts σ H Q := h
theorem r_star {K : PySem.W.Frag} {σ : L2.St} {H : Hp} {te : TE} {t : TA} {R : List V → Hp → Prop} (h : te σ H fun x H1 => ∃ (p : Addr) (xs : List V), x = .ref p ∧ (SqT K H1 p xs ∨ SqL K H1 p xs) ∧ t σ H1 fun ys H2 => R (xs ++ ys) H2) : StX.tStar K te t σ H R := h
/-! ### repr of a number -/
def rReprI : List V → Hp → VK → Prop := fun xs H Q => ∃ i, xs = [.int i] ∧ i.natAbs.log2 < 1920 ∧ Q (.str (toString i)) H
theorem reprI {X : Cx} : CallR X (.builtin "repr") rReprI := SkE.call_repr_int
theorem log_small {i : Int} {k : Nat} (h : i.natAbs < 2 ^ k) (hk : k ≤ 1900) : i.natAbs.log2 < 1920 := by
  by_cases z : i.natAbs = 0
  · rw [z]; decide
  · exact (Nat.log2_lt z).mpr (Nat.lt_of_lt_of_le h (Nat.pow_le_pow_right (by decide) (by omega)))
theorem r_reprI {H : Hp} {Q : VK} {i : Int} {k : Nat} (h : i.natAbs < 2 ^ k) (hk : k ≤ 1900) (q : Q (.str (toString i)) H) : rReprI [.int i] H Q := ⟨i, rfl, log_small h hk, q⟩
/-! ### math.comb -/
theorem comb_run (a : Int) (t : Tok) (b : Int) (u : Tok) (h0 : ¬ a < 0) (h1 : ¬ b < 0) (h2 : ¬ b > a) (h3 : a < 9000) (hz : ((Builtin.Math.fallingProduct a (min b (a - b)).toNat / Builtin.Math.fallingProduct (min b (a - b)) (min b (a - b)).toNat)).natAbs.log2 < bitsLine) :
    PySem.Gives (Builtin.«math.comb» ⟨[.int a t, .int b u], []⟩) (.int (Builtin.Math.fallingProduct a (min b (a - b)).toNat / Builtin.Math.fallingProduct (min b (a - b)) (min b (a - b)).toNat)) :=
  .of_wp fun M A E s Q h => by
    have g1 : ¬ min b (a - b) > Builtin.Math.maxSsize := by unfold Builtin.Math.maxSsize; omega
    have g2 : ¬ min b (a - b) > Builtin.Math.manyFactors := by unfold Builtin.Math.manyFactors; omega
    have g3 : ¬ min b (a - b) > 9000 := by omega
    obtain ⟨hp, g, d, tk, os⟩ := s
    wp_walk
    exact ⟨_, rfl, h⟩
/-- the number of choices -/
def cmb : Nat → Nat → Nat
  | _, 0 => 1
  | 0, _ + 1 => 0
  | n + 1, k + 1 => cmb n k + cmb n (k + 1)
def fac : Nat → Nat
  | 0 => 1
  | n + 1 => (n + 1) * fac n
theorem fac_pos : ∀ n, 0 < fac n
  | 0 => Nat.one_pos
  | n + 1 => Nat.mul_pos (Nat.succ_pos n) (fac_pos n)
theorem cmb_zero (n : Nat) : cmb n 0 = 1 := by cases n <;> rfl
theorem cmb_big : ∀ {n k : Nat}, n < k → cmb n k = 0
  | 0, k + 1, _ => rfl
  | n + 1, k + 1, h => by
    show cmb n k + cmb n (k + 1) = 0
    rw [cmb_big (show n < k by omega), cmb_big (show n < k + 1 by omega)]
theorem cmb_self : ∀ n, cmb n n = 1
  | 0 => rfl
  | n + 1 => by
    show cmb n n + cmb n (n + 1) = 1
    rw [cmb_self n, cmb_big (Nat.lt_succ_self n)]
theorem cmb_fac : ∀ (n k : Nat), cmb (n + k) k * (fac k * fac n) = fac (n + k)
  | 0, k => by rw [Nat.zero_add, cmb_self]; simp [fac]
  | n + 1, 0 => by rw [cmb_zero]; simp [fac]
  | n + 1, k + 1 => by
    have h1 := cmb_fac (n + 1) k
    have h2 := cmb_fac n (k + 1)
    show (cmb (n + 1 + k) k + cmb (n + 1 + k) (k + 1)) * (((k + 1) * fac k) * ((n + 1) * fac n)) = (n + 1 + k + 1) * fac (n + 1 + k)
    rw [show n + (k + 1) = n + 1 + k by omega] at h2
    have e1 : cmb (n + 1 + k) k * (((k + 1) * fac k) * ((n + 1) * fac n)) = (k + 1) * fac (n + 1 + k) := by
      rw [← h1]; show _ = (k + 1) * (cmb (n + 1 + k) k * (fac k * ((n + 1) * fac n))); ac_rfl
    have e2 : cmb (n + 1 + k) (k + 1) * (((k + 1) * fac k) * ((n + 1) * fac n)) = (n + 1) * fac (n + 1 + k) := by
      rw [← h2]; show _ = (n + 1) * (cmb (n + 1 + k) (k + 1) * ((k + 1) * fac k * fac n)); ac_rfl
    rw [Nat.add_mul, e1, e2, ← Nat.add_mul]
    congr 1; omega
theorem cmb_sym {n k : Nat} (h : k ≤ n) : cmb n (n - k) = cmb n k := by
  have h1 := cmb_fac (n - k) k
  have h2 := cmb_fac k (n - k)
  rw [show n - k + k = n by omega] at h1
  rw [show k + (n - k) = n by omega, Nat.mul_comm (fac (n - k))] at h2
  exact Nat.eq_of_mul_eq_mul_right (Nat.mul_pos (fac_pos k) (fac_pos (n - k))) (h2.trans h1.symm)
theorem cmb_le : ∀ n k, cmb n k ≤ 2 ^ n
  | _, 0 => by rw [cmb_zero]; exact Nat.one_le_two_pow
  | 0, _ + 1 => Nat.zero_le _
  | n + 1, k + 1 => by
    have h1 := cmb_le n k
    have h2 := cmb_le n (k + 1)
    show cmb n k + cmb n (k + 1) ≤ 2 ^ (n + 1)
    rw [Nat.pow_succ]; omega
theorem fall_succ (n : Int) (k : Nat) : Builtin.Math.fallingProduct n (k + 1) = Builtin.Math.fallingProduct n k * (n - (k : Int)) := by
  unfold Builtin.Math.fallingProduct
  rw [List.range_succ, List.foldl_append]; rfl
theorem fall_fac : ∀ (k n : Nat), Builtin.Math.fallingProduct ((n + k : Nat) : Int) k * (fac n : Int) = (fac (n + k) : Int)
  | 0, n => by show (1 : Int) * _ = _; rw [Int.one_mul]; rfl
  | k + 1, n => by
    have ih := fall_fac k (n + 1)
    rw [fall_succ, show (((n + (k + 1) : Nat) : Int) - (k : Int)) = ((n + 1 : Nat) : Int) by omega, Int.mul_assoc, ← Int.natCast_mul]
    rw [show n + 1 + k = n + (k + 1) by omega] at ih
    exact ih
theorem fall_cmb (n k : Nat) (h : k ≤ n) : Builtin.Math.fallingProduct (n : Int) k / Builtin.Math.fallingProduct (k : Int) k = (cmb n k : Int) := by
  have h1 := fall_fac k (n - k)
  have h2 := fall_fac k 0
  have h3 := cmb_fac (n - k) k
  rw [show n - k + k = n by omega] at h1 h3
  rw [Nat.zero_add] at h2
  have e2 : Builtin.Math.fallingProduct (k : Int) k = (fac k : Int) := by rw [← h2]; show _ = _ * ((1 : Nat) : Int); rw [Int.natCast_one, Int.mul_one]
  have p1 := fac_pos k
  have p2 := fac_pos (n - k)
  have e1 : Builtin.Math.fallingProduct (n : Int) k = (cmb n k : Int) * (fac k : Int) := by
    refine Int.eq_of_mul_eq_mul_right (show ((fac (n - k) : Nat) : Int) ≠ 0 by omega) ?_
    rw [h1, ← h3, Int.mul_assoc, Int.natCast_mul, Int.natCast_mul]
  rw [e1, e2]
  exact Int.mul_ediv_cancel _ (by omega)
theorem comb_meets (n k : Nat) (hk : k ≤ n) (hn : n ≤ 1000) (t u : Tok) : Gives (Builtin.«math.comb» ⟨[.int (n : Int) t, .int (k : Int) u], []⟩) (.int (cmb n k : Int)) := by
  have e : min (k : Int) ((n : Int) - (k : Int)) = ((min k (n - k) : Nat) : Int) := by omega
  have hm : cmb n (min k (n - k)) = cmb n k := by
    by_cases q : k ≤ n - k
    · rw [Nat.min_eq_left q]
    · rw [Nat.min_eq_right (by omega), cmb_sym hk]
  have e2 := fall_cmb n (min k (n - k)) (by omega)
  have hb : (Builtin.Math.fallingProduct (n : Int) (min (k : Int) ((n : Int) - (k : Int))).toNat / Builtin.Math.fallingProduct (min (k : Int) ((n : Int) - (k : Int))) (min (k : Int) ((n : Int) - (k : Int))).toNat) = (cmb n k : Int) := by
    rw [e, Int.toNat_natCast, e2, hm]
  have := comb_run (n : Int) t (k : Int) u (by omega) (by omega) (by omega) (by omega) (by
    rw [hb]
    have hc := cmb_le n k
    show (cmb n k).log2 < bitsLine
    refine Nat.lt_of_lt_of_le (Nat.lt_of_le_of_lt (Nat.le_trans (show (cmb n k).log2 ≤ (2 ^ n).log2 from ?_) (Nat.le_of_eq (Nat.log2_two_pow))) (show n < 1001 by omega)) (by decide)
    by_cases z : cmb n k = 0
    · rw [z]; exact Nat.zero_le _
    · rw [Nat.log2_two_pow]
      have := (Nat.log2_lt z).mpr (show cmb n k < 2 ^ (n + 1) by rw [Nat.pow_succ]; have := Nat.one_le_two_pow (n := n); omega)
      omega)
  rw [hb] at this
  exact this
def rComb : List V → Hp → VK → Prop := fun vs H Q => ∃ n k : Nat, vs = [.int n, .int k] ∧ k ≤ n ∧ n ≤ 1000 ∧ Q (.int (cmb n k : Nat)) H
theorem entry_comb : entryFor table "math.comb" = some Builtin.«math.comb» := entryFor_of_tree (by kernel_rfl)
theorem cr_comb {X : Cx} : CallR X (.builtin "math.comb") rComb := by
  intro pins s σ H vs us Q I r h
  obtain ⟨n, k, rfl, hk, hn, q⟩ := h
  obtain ⟨t, u, rfl⟩ := Vals.int2 r
  exact call_function_meets (by kernel_rfl) (by decide +kernel) entry_comb (by unfold argsOk; kernel_rfl) (comb_meets n k hk hn t u).meets ⟨.int _, H, I.tok _, ⟨_, rfl⟩, q⟩
end Xk
local macro_rules | `(tactic| fail "ww1") => `(tactic| with_reducible first | refine Xk.n_sl3 ?_ | refine Xk.r_star ?_)

set_option Elab.async false
set_option linter.all false
set_option maxRecDepth 100000
namespace Xk
open PySem PySem.Spec PyProof.Rows L2
section
variable {X : Cx}
theorem ip_fdivW : PIp X .FloorDiv (rI CDivW fun i j => .int (i / j)) := iop_fdivW
theorem ip_mulW : PIp X .Mult (rI CMulW fun i j => .int (i * j)) := by
  intro pins s σ H x y v u Q I r1 r2 h
  obtain ⟨i, j, rfl, rfl, hc, q⟩ := h
  obtain ⟨t, rfl⟩ := r1
  obtain ⟨t', rfl⟩ := r2
  exact imul_int ⟨.int _, H, I.tok _, ⟨_, rfl⟩, q⟩ hc.ok
/-- x not in rows, data of few layers -/
def rNotInE (K : PySem.W.Frag) : R2 := fun x y H Q => ∃ d ds, Dp K H x d ∧ Dp K H y (.list ds) ∧ SeqAt.shaped d = true ∧ SeqAt.shaped (.list ds) = true ∧ d.depth ≤ 60 ∧ Q (.bl (!ds.any fun z => PyData.eqv z d)) H
theorem op_notinE {K : PySem.W.Frag} (hu : X.A.units + 64 < cLine) (hK : X.K = K := by rfl) : OpR X (compareOp .NotIn) (rNotInE K) := by
  subst hK
  intro pins s σ H x y v u Q I rx ry ⟨d, ds, hd, he, sd, se, dd, q⟩
  have ⟨as, r1⟩ := Dp.reads I d x v hd rx
  have ⟨bs, r2⟩ := Dp.reads I (.list ds) y u he ry
  have hm := Nat.min_le_right (PyData.depthAll ds) d.depth
  exact SeqAt.notIn_list_reads r2 r1 (SeqAt.canLay_of_shaped se) (SeqAt.canLay_of_shaped sd) (by omega) ⟨.bl _, H, I, rfl, q⟩
end
end Xk

set_option Elab.async false
set_option linter.all false
set_option maxRecDepth 100000
namespace Xk
open PySem PySem.Spec PyProof.Rows L2
/-! ### sorted() of a list of rows that are in order -/
/-- the order of lists -/
def lexI : List Int → List Int → Prop
  | x :: r, y :: t => x < y ∨ (x = y ∧ lexI r t)
  | _, _ => False
theorem alike_ints : ∀ l m : List Int, PySem.W.alikeAll (l.map PyData.int) (m.map PyData.int) = true
  | [], [] => rfl
  | [], _ :: _ => rfl
  | _ :: _, [] => rfl
  | x :: r, y :: t => by
    show (PySem.W.alike (.int x) (.int y) && PySem.W.alikeAll (r.map PyData.int) (t.map PyData.int)) = true
    rw [alike_ints r t]; rfl
theorem toks_lt : ∀ {l m : List Int}, lexI l m → PyProof.Rows.lexLt itemOrd (PySem.W.keyToks (.list (l.map .int))) (PySem.W.keyToks (.list (m.map .int))) = true
  | x :: r, y :: t, h => by
    have e1 : PySem.W.keyToks (.list ((x :: r).map .int)) = .inl 1 :: .inl x :: PySem.W.keyToks (.list (r.map .int)) := rfl
    have e2 : PySem.W.keyToks (.list ((y :: t).map .int)) = .inl 1 :: .inl y :: PySem.W.keyToks (.list (t.map .int)) := rfl
    have b1 : itemLt (.inl 1) (.inl 1) = false := by decide
    rw [e1, e2]
    have b2 : itemLt (.inl x) (.inl y) = decide (x < y) := rfl
    have b3 : itemLt (.inl y) (.inl x) = decide (y < x) := rfl
    unfold PyProof.Rows.lexLt
    rcases h with h | ⟨rfl, h⟩
    · unfold PyProof.Rows.lexLt
      simp [b1, b2, b3, h]
    · unfold PyProof.Rows.lexLt
      simp [b1, b2, b3, toks_lt h]
theorem data_le {l m : List Int} (h : l = m ∨ lexI l m) : PySem.W.dataLe false (fun x : V × List Int => PyData.list (x.2.map .int)) (V.non, l) (V.non, m) = true := by
  show (!PyProof.Rows.lexLt itemOrd (PySem.W.keyToks (.list (m.map .int))) (PySem.W.keyToks (.list (l.map .int)))) = true
  rw [Bool.not_eq_true']
  rcases h with rfl | h
  · exact (PyProof.Rows.listOrd itemOrd).irrefl _
  · cases e : PyProof.Rows.lexLt itemOrd (PySem.W.keyToks (.list (m.map .int))) (PySem.W.keyToks (.list (l.map .int))) with
    | false => rfl
    | true =>
      have := (PyProof.Rows.listOrd itemOrd).trans _ _ _ (toks_lt h) e
      have i := (PyProof.Rows.listOrd itemOrd).irrefl (PySem.W.keyToks (.list (l.map .int)))
      rw [i] at this; cases this
/-- sorted of rows that are in order -/
def rSortRw (K : PySem.W.Frag) : List V → Hp → VK → Prop := fun vs H Q => ∃ (a : Addr) (xs : List V) (ls : List (List Int)), vs = [.ref a] ∧ SqL K H a xs ∧ DpAll K H xs (ls.map fun l => .list (l.map .int)) ∧ ls.Pairwise (fun l m => l = m ∨ lexI l m) ∧ ∀ p, H p = none → Q (.ref p) (upd H p (.lst xs))
theorem zip_each {R : Value → V × List Int → Prop} : ∀ {xs : List V} {us : List Value} {ls : List (List Int)}, Vals xs us → xs.length = ls.length → (∀ x u l, RelV x u → R u (x, l)) → PySem.W.EachIs R us (xs.zip ls)
  | [], _, [], h, _, _ => by cases h; exact .nil
  | x :: xs, _, l :: ls, h, e, f => by
    cases h with
    | cons h1 h2 => exact .cons (f _ _ _ h1) (zip_each h2 (by simpa using e) f)
theorem each_zip : ∀ {xs : List V} {us : List Value} {ls : List (List Int)}, xs.length = ls.length → PySem.W.EachIs (fun (v : Value) (b : V × List Int) => RelV b.1 v) us (xs.zip ls) → Vals xs us
  | [], _, [], _, h => by cases h; exact .nil
  | x :: xs, _, l :: ls, e, h => by
    cases h with
    | cons h1 h2 => exact .cons h1 (each_zip (by simpa using e) h2)
theorem zip_reads {K : PySem.W.Frag} {H : Hp} {R : Value → V × List Int → Prop} : ∀ {xs : List V} {us : List Value} {ls : List (List Int)}, Vals xs us → DpAll K H xs (ls.map fun l => .list (l.map .int)) → (∀ x u l, RelV x u → Dp K H x (.list (l.map .int)) → R u (x, l)) → PySem.W.EachIs R us (xs.zip ls)
  | [], _, [], h, _, _ => by cases h; exact .nil
  | x :: xs, _, l :: ls, h, d, f => by
    cases h with
    | cons h1 h2 =>
      cases d with
      | cons d1 d2 => exact .cons (f _ _ _ h1 d1) (zip_reads h2 d2 f)
theorem dpAll_len {K : PySem.W.Frag} {H : Hp} : ∀ {xs : List V} {ds : List PyData}, DpAll K H xs ds → xs.length = ds.length
  | [], [], _ => rfl
  | _ :: _, _ :: _, h => by
    cases h with
    | cons _ h2 => simp [dpAll_len h2]
section
variable {X : Cx}
theorem cr_sortedRw (hu : X.A.units + 64 < cLine) : CallR X (.builtin "sorted") (rSortRw X.K) := by
  intro pins s σ H vs us Q I rv h
  obtain ⟨a, xs, ls, rfl, hS, hd, hp, q⟩ := h
  cases rv with
  | cons r1 r2 =>
  cases r2
  cases r1
  obtain ⟨its, rx, hl, hz⟩ := I.list hS
  have hlen : xs.length = ls.length := by rw [dpAll_len hd, List.length_map]
  refine PySem.W.sorted_data (β := V × List Int) (vs := its) (bs := xs.zip ls) (enc := fun b => .list (b.2.map .int)) (R := fun v b => RelV b.1 v) hl.isList (zip_each rx hlen fun x u l h => h) (zip_reads rx hd fun x u l h d => Dp.reads I _ _ _ d h) ?_ ?_ ?_ ?_ fun out ho he => ?_
  · intro d hd d' hd'
    obtain ⟨b, _, rfl⟩ := List.mem_map.mp hd
    obtain ⟨b', _, rfl⟩ := List.mem_map.mp hd'
    exact alike_ints _ _
  · refine .inr fun d hd => ?_
    obtain ⟨b, _, rfl⟩ := List.mem_map.mp hd
    exact ⟨(by intro z; cases z), fun xs z => by cases z⟩
  · rw [List.length_zip]; omega
  · intro b _
    have : (PyData.list (b.2.map .int)).depth ≤ 1 := by
      show PyData.depthAll (b.2.map PyData.int) + 1 ≤ 1
      have : ∀ l : List Int, PyData.depthAll (l.map PyData.int) = 0 := fun l => by
        induction l with
        | nil => rfl
        | cons x r ih => show max 0 (PyData.depthAll (r.map PyData.int)) = 0; rw [ih]; rfl
      rw [this]; exact Nat.le_refl _
    omega
  · have pw : (xs.zip ls).Pairwise (fun a b => PySem.W.dataLe false (fun b : V × List Int => PyData.list (b.2.map .int)) a b = true) := by
      have : ((xs.zip ls).map Prod.snd).Pairwise (fun l m => l = m ∨ lexI l m) := by
        rw [List.map_snd_zip (by omega)]; exact hp
      rw [List.pairwise_map] at this
      exact this.imp fun h => data_le h
    rw [List.mergeSort_of_pairwise pw] at he
    have rv := each_zip hlen he
    obtain ⟨e, ha⟩ := sortedAll_at s.heap its out.toArray
    exact ⟨.ref _, _, I.laid (t' := s.toks) (o := .lst xs) (fun b ob y => sortedAll_old y) (Nat.le_succ _) ⟨hz, _, e, rv, ha⟩, rfl, q _ (I.hok.fresh (Nat.le_succ _))⟩
end
theorem sortedRwK {X : Cx} {K : PySem.W.Frag} (hu : X.A.units + 64 < cLine) (hK : X.K = K := by rfl) : CallR X (.builtin "sorted") (rSortRw K) := hK ▸ cr_sortedRw hu
end Xk

namespace My
def IsArr (l : List Int) : Prop := l.Nodup ∧ ∀ v ∈ l, 1 ≤ v ∧ v ≤ l.length
/-- how many of the first p values are at most q -/
def cnt (l : List Int) (p q : Nat) : Nat := ((l.take p).filter (fun v => decide (v ≤ (q : Int)))).length
theorem cnt_zero (l : List Int) (q : Nat) : cnt l 0 q = 0 := by simp [cnt]
theorem cnt_succ {l : List Int} {p : Nat} (h : p < l.length) (q : Nat) : cnt l (p + 1) q = cnt l p q + if l[p] ≤ (q : Int) then 1 else 0 := by
  unfold cnt
  rw [List.take_add_one, List.getElem?_eq_getElem h, List.filter_append, List.length_append]
  by_cases e : l[p] ≤ (q : Int) <;> simp [e]
def AtMost (a b : List Int) : Prop := ∀ p q : Nat, cnt b p q ≤ cnt a p q
theorem cnt_all {l : List Int} {p q : Nat} (h : ∀ v ∈ l, v ≤ (q : Int)) : cnt l p q = min p l.length := by
  unfold cnt
  rw [List.filter_eq_self.mpr fun v hv => decide_eq_true (h v (List.mem_of_mem_take hv)), List.length_take]
theorem cnt_none {l : List Int} {p : Nat} (h : ∀ v ∈ l, 1 ≤ v) : cnt l p 0 = 0 := by
  unfold cnt
  rw [List.length_eq_zero_iff, List.filter_eq_nil_iff]
  intro v hv
  have := h v (List.mem_of_mem_take hv)
  simp; omega
theorem cnt_over {l : List Int} {p q : Nat} (h : l.length ≤ p) : cnt l p q = cnt l l.length q := by
  unfold cnt
  rw [List.take_of_length_le h, List.take_of_length_le (Nat.le_refl _)]
/-- counts with limits below the size tell everything -/
theorem most_iff {a b : List Int} (ha : IsArr a) (hb : IsArr b) (hl : a.length = b.length) : AtMost a b ↔ ∀ p, p ≤ a.length → ∀ q, q < a.length → cnt b p q ≤ cnt a p q := by
  refine ⟨fun h p _ q _ => h p q, fun h p q => ?_⟩
  have key : ∀ p, p ≤ a.length → cnt b p q ≤ cnt a p q := fun p hp => by
    by_cases hq : q < a.length
    · exact h p hp q hq
    · rw [cnt_all fun v hv => Int.le_trans (hb.2 v hv).2 (by omega), cnt_all fun v hv => Int.le_trans (ha.2 v hv).2 (by omega), hl]
      exact Nat.le_refl _
  by_cases hp : p ≤ a.length
  · exact key p hp
  · rw [cnt_over (l := a) (by omega), cnt_over (l := b) (by omega), ← hl]
    exact key _ (Nat.le_refl _)
noncomputable instance (a b : List Int) : Decidable (AtMost a b) := Classical.propDecidable _
theorem arr_asc {l : List Int} {n : Nat} (h : l.Perm ((List.range n).map fun (i : Nat) => (1 + i : Int))) : IsArr l := by
  have hl : l.length = n := by rw [h.length_eq]; simp
  refine ⟨h.symm.nodup ?_, fun v hv => ?_⟩
  · rw [List.Nodup, List.pairwise_map]
    exact List.nodup_range.imp fun h q => h (by omega)
  · obtain ⟨k, hk, rfl⟩ := List.mem_map.mp (h.mem_iff.mp hv)
    have := List.mem_range.mp hk
    omega
/-- a row of numbers by a function of the place -/
def tab (n : Nat) (f : Nat → Int) : List Int := (List.range n).map f
theorem tab_len (n : Nat) (f : Nat → Int) : (tab n f).length = n := by simp [tab]
theorem tab_get {n : Nat} {f : Nat → Int} {k : Nat} (h : k < n) : (tab n f)[k]? = some (f k) := by simp [tab, h]
theorem tab_set {n : Nat} {f : Nat → Int} {k : Nat} {v : Int} : (tab n f).set k v = tab n fun q => if q = k then v else f q := by
  apply List.ext_getElem
  · simp [tab]
  · intro i h1 h2
    rw [List.getElem_set]
    simp only [tab, List.getElem_map, List.getElem_range]
    by_cases e : k = i
    · subst e; simp
    · rw [if_neg e, if_neg (fun q => e q.symm)]
theorem tab_congr {n : Nat} {f g : Nat → Int} (h : ∀ q, q < n → f q = g q) : tab n f = tab n g := by
  unfold tab
  exact List.map_congr_left fun q hq => h q (List.mem_range.mp hq)
theorem tab_const (n : Nat) (c : Int) : List.replicate n c = tab n fun _ => c := by
  apply List.ext_getElem <;> simp [tab]
end My
namespace My
/-! ### sorted lists -/
def ins (x : Int) : List Int → List Int
  | [] => [x]
  | y :: r => if x ≤ y then x :: y :: r else y :: ins x r
def srt : List Int → List Int
  | [] => []
  | x :: r => ins x (srt r)
theorem ins_perm (x : Int) : ∀ l : List Int, (ins x l).Perm (x :: l)
  | [] => List.Perm.refl _
  | y :: r => by
    unfold ins
    split
    · exact List.Perm.refl _
    · exact ((ins_perm x r).cons y).trans (List.Perm.swap x y r)
theorem srt_perm : ∀ l : List Int, (srt l).Perm l
  | [] => List.Perm.refl _
  | x :: r => (ins_perm x (srt r)).trans ((srt_perm r).cons x)
theorem ins_up (x : Int) : ∀ l : List Int, l.Pairwise (· ≤ ·) → (ins x l).Pairwise (· ≤ ·)
  | [], _ => List.pairwise_singleton _ _
  | y :: r, h => by
    have h1 := List.pairwise_cons.mp h
    unfold ins
    split
    · rename_i hxy
      exact List.pairwise_cons.mpr ⟨fun z hz => by
        rcases List.mem_cons.mp hz with e | e
        · rw [e]; exact hxy
        · exact Int.le_trans hxy (h1.1 z e), h⟩
    · refine List.pairwise_cons.mpr ⟨fun z hz => ?_, ins_up x r h1.2⟩
      rcases List.mem_cons.mp ((ins_perm x r).mem_iff.mp hz) with e | e
      · rw [e]; omega
      · exact h1.1 z e
theorem srt_up : ∀ l : List Int, (srt l).Pairwise (· ≤ ·)
  | [] => List.Pairwise.nil
  | x :: r => ins_up x _ (srt_up r)
theorem up_unique : ∀ {l m : List Int}, l.Perm m → l.Pairwise (· ≤ ·) → m.Pairwise (· ≤ ·) → l = m
  | [], m, h, _, _ => (h.nil_eq).symm ▸ rfl
  | x :: r, m, h, h1, h2 => by
    cases m with
    | nil => exact absurd h.eq_nil (by simp)
    | cons y t =>
      have a1 := List.pairwise_cons.mp h1
      have a2 := List.pairwise_cons.mp h2
      have e : x = y := by
        have hx : x ∈ y :: t := h.mem_iff.mp List.mem_cons_self
        have hy : y ∈ x :: r := h.mem_iff.mpr List.mem_cons_self
        rcases List.mem_cons.mp hx with q | q
        · exact q
        · rcases List.mem_cons.mp hy with q' | q'
          · exact q'.symm
          · have := a1.1 y q'; have := a2.1 x q; omega
      subst e
      rw [up_unique ((List.perm_cons x).mp h) a1.2 a2.2]
theorem srt_is {l m : List Int} (h : m.Perm l) (u : m.Pairwise (· ≤ ·)) : m = srt l := up_unique (h.trans (srt_perm l).symm) u (srt_up l)
theorem srt_len (l : List Int) : (srt l).length = l.length := (srt_perm l).length_eq
/-- the values at the places i to j sorted -/
def seg (l : List Int) (i j : Nat) : List Int := l.take (i - 1) ++ srt ((l.drop (i - 1)).take (j - (i - 1))) ++ l.drop j
theorem seg_perm {l : List Int} {i j : Nat} (h1 : i ≤ j) (_h2 : j ≤ l.length) : (seg l i j).Perm l := by
  unfold seg
  have e : l = l.take (i - 1) ++ (l.drop (i - 1)).take (j - (i - 1)) ++ l.drop j := by
    conv => lhs; rw [← List.take_append_drop (i - 1) l, ← List.take_append_drop (j - (i - 1)) (l.drop (i - 1)), List.drop_drop]
    rw [List.append_assoc, show i - 1 + (j - (i - 1)) = j by omega]
  conv => rhs; rw [e]
  exact ((srt_perm _).append_left _).append_right _
theorem seg_len {l : List Int} {i j : Nat} (h1 : i ≤ j) (h2 : j ≤ l.length) : (seg l i j).length = l.length := (seg_perm h1 h2).length_eq
abbrev Cmd := Nat × Nat
def step (l : List Int) (c : Cmd) : List Int := seg l c.1 c.2
def runM (l : List Int) (cs : List Cmd) : List Int := cs.foldl step l
/-- the commands fit rows of n places -/
def Fits (n : Nat) (cs : List Cmd) : Prop := ∀ c ∈ cs, 1 ≤ c.1 ∧ c.1 ≤ c.2 ∧ c.2 ≤ n
theorem runM_perm : ∀ (cs : List Cmd) (l : List Int), Fits l.length cs → (runM l cs).Perm l
  | [], l, _ => List.Perm.refl l
  | c :: r, l, h => by
    have hc := h c List.mem_cons_self
    have p := seg_perm hc.2.1 hc.2.2
    refine List.Perm.trans (runM_perm r (step l c) ?_) p
    show Fits (seg l c.1 c.2).length r
    rw [p.length_eq]
    exact fun d hd => h d (List.mem_cons_of_mem _ hd)
theorem runM_len {cs : List Cmd} {l : List Int} (h : Fits l.length cs) : (runM l cs).length = l.length := (runM_perm cs l h).length_eq
theorem runM_snoc (l : List Int) (cs : List Cmd) (c : Cmd) : runM l (cs ++ [c]) = step (runM l cs) c := by unfold runM; rw [List.foldl_append]; rfl
theorem runM_app (l : List Int) (cs ds : List Cmd) : runM l (cs ++ ds) = runM (runM l cs) ds := List.foldl_append ..
theorem Fits.take {n k : Nat} {cs : List Cmd} (h : Fits n cs) : Fits n (cs.take k) := fun c hc => h c (List.mem_of_mem_take hc)
theorem Fits.drop {n k : Nat} {cs : List Cmd} (h : Fits n cs) : Fits n (cs.drop k) := fun c hc => h c (List.mem_of_mem_drop hc)
end My
namespace My
/-! ### counts of small values ahead of a place -/
def zc (l : List Int) (t : Int) (p : Nat) : Nat := (l.take p).countP (fun v => decide (v ≤ t))
theorem zc_succ {l : List Int} {p : Nat} (h : p < l.length) (t : Int) : zc l t (p + 1) = zc l t p + if l[p] ≤ t then 1 else 0 := by
  unfold zc
  rw [List.take_add_one, List.getElem?_eq_getElem h, List.countP_append]
  by_cases g : l[p] ≤ t <;> simp [g]
theorem zc_le (l : List Int) (t : Int) (p : Nat) : zc l t p ≤ p := Nat.le_trans List.countP_le_length (by rw [List.length_take]; omega)
theorem zc_step (l : List Int) (t : Int) (p : Nat) : zc l t p ≤ zc l t (p + 1) ∧ zc l t (p + 1) ≤ zc l t p + 1 := by
  by_cases h : p < l.length
  · rw [zc_succ h]; split <;> omega
  · have : zc l t (p + 1) = zc l t p := by unfold zc; rw [List.take_of_length_le (by omega), List.take_of_length_le (by omega)]
    omega
theorem zc_mono {l : List Int} {t : Int} {p : Nat} : ∀ d, zc l t p ≤ zc l t (p + d) ∧ zc l t (p + d) ≤ zc l t p + d
  | 0 => by simp
  | d + 1 => by
    have h1 := zc_mono (l := l) (t := t) (p := p) d
    have h2 := zc_step l t (p + d)
    rw [show p + (d + 1) = p + d + 1 by omega]
    omega
theorem up_zc (t : Int) : ∀ (s : List Int) (k : Nat), s.Pairwise (· ≤ ·) → zc s t k = min k (s.countP (fun v => decide (v ≤ t)))
  | [], k, _ => by simp [zc]
  | x :: r, 0, _ => by simp [zc]
  | x :: r, k + 1, h => by
    have h1 := List.pairwise_cons.mp h
    have ih := up_zc t r k h1.2
    unfold zc at ih ⊢
    rw [List.take_succ_cons, List.countP_cons, List.countP_cons]
    by_cases g : x ≤ t
    · simp only [g, decide_true, if_true]; rw [ih]; omega
    · have z : r.countP (fun v => decide (v ≤ t)) = 0 := List.countP_eq_zero.mpr fun v hv => by have := h1.1 v hv; simp; omega
      rw [z] at ih ⊢
      simp only [g, decide_false, Bool.false_eq_true, if_false]; rw [ih]; simp
theorem zc_app (a b : List Int) (t : Int) (p : Nat) : zc (a ++ b) t p = zc a t p + zc b t (p - a.length) := by
  unfold zc; rw [List.take_append, List.countP_append]
theorem zc_all {l : List Int} {t : Int} {p : Nat} (h : l.length ≤ p) : zc l t p = l.countP (fun v => decide (v ≤ t)) := by unfold zc; rw [List.take_of_length_le h]
theorem zc_seg {l : List Int} {i j : Nat} (h1 : 1 ≤ i) (h2 : i ≤ j) (h3 : j ≤ l.length) (t : Int) (p : Nat) :
    zc (seg l i j) t p = if p < i ∨ j < p then zc l t p else min (zc l t (i - 1) + (p - (i - 1))) (zc l t j) := by
  obtain ⟨A, M, B, rfl, hA, hM⟩ : ∃ A M B, l = A ++ M ++ B ∧ A.length = i - 1 ∧ M.length = j - (i - 1) := by
    refine ⟨l.take (i - 1), (l.drop (i - 1)).take (j - (i - 1)), l.drop j, ?_, by rw [List.length_take]; omega, by rw [List.length_take, List.length_drop]; omega⟩
    conv => lhs; rw [← List.take_append_drop (i - 1) l, ← List.take_append_drop (j - (i - 1)) (l.drop (i - 1)), List.drop_drop]
    rw [List.append_assoc, show i - 1 + (j - (i - 1)) = j by omega]
  have e : seg (A ++ M ++ B) i j = A ++ srt M ++ B := by
    unfold seg
    have e1 : (A ++ M ++ B).take (i - 1) = A := by rw [List.append_assoc, ← hA, List.take_left]
    have e2 : (A ++ M ++ B).drop (i - 1) = M ++ B := by rw [List.append_assoc, ← hA, List.drop_left]
    have e3 : (A ++ M ++ B).drop j = B := by rw [show j = (A ++ M).length by rw [List.length_append]; omega, List.drop_left]
    rw [e1, e2, e3, ← hM, List.take_left]
  rw [e]
  have hs : (srt M).length = M.length := srt_len M
  have cM : (srt M).countP (fun v => decide (v ≤ t)) = M.countP (fun v => decide (v ≤ t)) := (srt_perm M).countP_eq _
  simp only [zc_app, List.length_append, hs, hA, hM]
  rw [zc_all (l := A) (p := j) (by omega), zc_all (l := M) (p := j - (i - 1)) (by omega), show j - (i - 1 + (j - (i - 1))) = 0 by omega]
  rw [zc_all (l := A) (p := i - 1) (by omega), show i - 1 - (i - 1) = 0 by omega, show i - 1 - (i - 1 + (j - (i - 1))) = 0 by omega]
  have z0 : ∀ b : List Int, zc b t 0 = 0 := fun b => by simp [zc]
  rw [z0, z0, up_zc t _ _ (srt_up M), cM]
  by_cases g : p < i ∨ j < p
  · rw [if_pos g]
    rcases g with g | g
    · rw [show p - (i - 1) = 0 by omega]; rw [z0]; simp
    · rw [zc_all (l := M) (p := p - (i - 1)) (by omega)]
      have := List.countP_le_length (p := fun v => decide (v ≤ t)) (l := M)
      omega
  · rw [if_neg g, zc_all (l := A) (p := p) (by omega), show p - (i - 1 + (j - (i - 1))) = 0 by omega, z0]
    omega
/-- rows of one length with the same counts are equal -/
theorem zc_ext {l m : List Int} (hl : l.length = m.length) (h : ∀ t p, p ≤ l.length → zc l t p = zc m t p) : l = m := by
  refine List.ext_getElem hl fun k h1 h2 => ?_
  have key : ∀ t, l[k] ≤ t ↔ m[k] ≤ t := fun t => by
    have a := h t (k + 1) (by omega)
    rw [zc_succ h1, zc_succ h2, h t k (by omega)] at a
    by_cases g : l[k] ≤ t <;> by_cases g' : m[k] ≤ t <;> simp [g, g'] at a ⊢
  have := (key l[k]).mp (Int.le_refl _)
  have := (key m[k]).mpr (Int.le_refl _)
  omega
def desc (n : Nat) : List Int := (List.range n).map fun (k : Nat) => ((n : Int) - k)
theorem desc_len (n : Nat) : (desc n).length = n := by simp [desc]
theorem desc_get {n k : Nat} (h : k < (desc n).length) : (desc n)[k] = (n : Int) - k := by simp [desc]
theorem zc_desc {n : Nat} (q : Nat) (hq : q ≤ n) : ∀ p, p ≤ n → zc (desc n) ((n : Int) - q) p = p - q
  | 0, _ => by simp [zc]
  | p + 1, h => by
    have h' : p < (desc n).length := by rw [desc_len]; omega
    rw [zc_succ h', zc_desc q hq p (by omega), desc_get]
    split <;> omega
/-- what a script makes of a row, told by what it makes of the descending arrangement -/
def Told (n : Nat) (l0 l e : List Int) : Prop := l.length = n ∧ e.length = n ∧ ∀ (t : Int) (p : Nat), p ≤ n →
  (∀ q, q ≤ n → zc l t p ≤ zc l0 t q + zc e ((n : Int) - q) p) ∧ ∃ q, q ≤ n ∧ zc l t p = zc l0 t q + zc e ((n : Int) - q) p
theorem told_nil {l : List Int} : Told l.length l l (desc l.length) := ⟨rfl, desc_len _, fun t p hp => ⟨fun q hq => by
    rw [zc_desc q hq p hp]
    by_cases g : q ≤ p
    · have := (zc_mono (l := l) (t := t) (p := q) (p - q)).2
      rw [show q + (p - q) = p by omega] at this
      exact this
    · have := (zc_mono (l := l) (t := t) (p := p) (q - p)).1
      rw [show p + (q - p) = q by omega] at this
      omega, p, hp, by rw [zc_desc p hp p hp]; omega⟩⟩
theorem told_step {n : Nat} {l0 l e : List Int} {c : Cmd} (h1 : 1 ≤ c.1) (h2 : c.1 ≤ c.2) (h3 : c.2 ≤ n) (h : Told n l0 l e) : Told n l0 (step l c) (step e c) := by
  obtain ⟨hl, he, h⟩ := h
  refine ⟨(seg_len h2 (by omega)).trans hl, (seg_len h2 (by omega)).trans he, fun t p hp => ?_⟩
  have key : zc (step l c) t p = if p < c.1 ∨ c.2 < p then zc l t p else min (zc l t (c.1 - 1) + (p - (c.1 - 1))) (zc l t c.2) := zc_seg (l := l) h1 h2 (by omega) t p
  have kee : ∀ q : Nat, zc (step e c) ((n : Int) - q) p = _ := fun q => zc_seg (l := e) h1 h2 (by omega) ((n : Int) - q) p
  by_cases g : p < c.1 ∨ c.2 < p
  · have a := h t p hp
    refine ⟨fun q hq => ?_, ?_⟩
    · rw [key, kee q, if_pos g, if_pos g]; exact a.1 q hq
    · obtain ⟨q, hq, e1⟩ := a.2
      exact ⟨q, hq, by rw [key, kee q, if_pos g, if_pos g]; exact e1⟩
  · have a := h t (c.1 - 1) (by omega)
    have b := h t c.2 h3
    refine ⟨fun q hq => ?_, ?_⟩
    · rw [key, kee q, if_neg g, if_neg g]
      have := a.1 q hq; have := b.1 q hq
      omega
    · by_cases w : zc l t (c.1 - 1) + (p - (c.1 - 1)) ≤ zc l t c.2
      · obtain ⟨q, hq, e1⟩ := a.2
        refine ⟨q, hq, ?_⟩
        rw [key, kee q, if_neg g, if_neg g]
        have := b.1 q hq
        omega
      · obtain ⟨q, hq, e1⟩ := b.2
        refine ⟨q, hq, ?_⟩
        rw [key, kee q, if_neg g, if_neg g]
        have := a.1 q hq
        omega
theorem told_run {n : Nat} {l0 : List Int} : ∀ (cs : List Cmd) (l e : List Int), Fits n cs → Told n l0 l e → Told n l0 (runM l cs) (runM e cs)
  | [], _, _, _, h => h
  | c :: r, l, e, f, h => told_run r (step l c) (step e c) (fun d hd => f d (List.mem_cons_of_mem _ hd))
      (told_step (f c List.mem_cons_self).1 (f c List.mem_cons_self).2.1 (f c List.mem_cons_self).2.2 h)
theorem told_one {n : Nat} {l0 l m e : List Int} (h : Told n l0 l e) (g : Told n l0 m e) : l = m :=
  zc_ext (h.1.trans g.1.symm) fun t p hp => by
    rw [h.1] at hp
    obtain ⟨q, hq, e1⟩ := (h.2.2 t p hp).2
    obtain ⟨q', hq', e2⟩ := (g.2.2 t p hp).2
    have := (h.2.2 t p hp).1 q' hq'
    have := (g.2.2 t p hp).1 q hq
    omega
/-- scripts with one effect do the same -/
theorem same_eff {cs ds : List Cmd} {l : List Int} (hc : Fits l.length cs) (hd : Fits l.length ds) (h : runM (desc l.length) cs = runM (desc l.length) ds) : runM l cs = runM l ds := by
  have a := told_run cs l (desc l.length) hc told_nil
  have b := told_run ds l (desc l.length) hd told_nil
  rw [← h] at b
  exact told_one a b
end My
namespace My
/-! ### exchanges of neighbours -/
theorem two_at {l : List Int} {k : Nat} (h1 : 1 ≤ k) (h2 : k < l.length) : ∃ A B, l = A ++ l[k - 1] :: l[k] :: B ∧ A.length = k - 1 := by
  refine ⟨l.take (k - 1), l.drop (k + 1), ?_, by rw [List.length_take]; omega⟩
  have e1 : l.drop (k - 1) = l[k - 1] :: l.drop k := by
    rw [List.drop_eq_getElem_cons (by omega)]
    simp only [show k - 1 + 1 = k by omega]
  have e2 : l.drop k = l[k] :: l.drop (k + 1) := List.drop_eq_getElem_cons h2
  rw [← e2, ← e1, List.take_append_drop]
theorem seg_two {A B : List Int} {a b : Int} {k : Nat} (h1 : 1 ≤ k) (hA : A.length = k - 1) : seg (A ++ a :: b :: B) k (k + 1) = if b < a then A ++ b :: a :: B else A ++ a :: b :: B := by
  unfold seg
  have e1 : (A ++ a :: b :: B).take (k - 1) = A := by rw [← hA, List.take_left]
  have e2 : (A ++ a :: b :: B).drop (k - 1) = a :: b :: B := by rw [← hA, List.drop_left]
  have e3 : (A ++ a :: b :: B).drop (k + 1) = B := by
    rw [show A ++ a :: b :: B = (A ++ [a, b]) ++ B by simp, show k + 1 = (A ++ [a, b]).length by rw [List.length_append]; show _ = A.length + 2; omega, List.drop_left]
  rw [e1, e2, e3, show k + 1 - (k - 1) = 2 by omega]
  have e4 : srt [a, b] = if a ≤ b then [a, b] else [b, a] := by simp [srt, ins]
  show A ++ srt [a, b] ++ B = _
  rw [e4]
  by_cases g : a ≤ b
  · rw [if_pos g, if_neg (by omega)]; simp
  · rw [if_neg g, if_pos (by omega)]; simp
/-- two neighbours exchanged -/
def swp (l : List Int) (k : Nat) (x y : Int) : List Int := (l.set (k - 1) x).set k y
theorem swp_two {A B : List Int} {a b x y : Int} {k : Nat} (h1 : 1 ≤ k) (hA : A.length = k - 1) : swp (A ++ a :: b :: B) k x y = A ++ x :: y :: B := by
  unfold swp
  rw [List.set_append_right _ _ (by omega), show k - 1 - A.length = 0 by omega]
  rw [List.set_append_right _ _ (by omega), show k - A.length = 1 by omega]
  rfl
theorem nb_gt {l : List Int} {k : Nat} (h1 : 1 ≤ k) (h2 : k < l.length) (g : l[k] < l[k - 1]) : seg l k (k + 1) = swp l k l[k] l[k - 1] := by
  obtain ⟨A, B, e, hA⟩ := two_at h1 h2
  generalize l[k] = b at e g; generalize l[k - 1] = a at e g
  rw [e, seg_two h1 hA, if_pos g, swp_two h1 hA]
theorem nb_le {l : List Int} {k : Nat} (h1 : 1 ≤ k) (h2 : k < l.length) (g : ¬ l[k] < l[k - 1]) : seg l k (k + 1) = l := by
  obtain ⟨A, B, e, hA⟩ := two_at h1 h2
  generalize l[k] = b at e g; generalize l[k - 1] = a at e g
  rw [e, seg_two h1 hA, if_neg g]
theorem swp_len {l : List Int} {k : Nat} {x y : Int} : (swp l k x y).length = l.length := by simp [swp]
theorem nb_back {l : List Int} {k : Nat} (h1 : 1 ≤ k) (h2 : k < l.length) (g : l[k - 1] < l[k]) : seg (swp l k l[k] l[k - 1]) k (k + 1) = l := by
  obtain ⟨A, B, e, hA⟩ := two_at h1 h2
  generalize l[k] = b at e g ⊢; generalize l[k - 1] = a at e g ⊢
  rw [e, swp_two h1 hA, seg_two h1 hA, if_pos g]
theorem swp_perm {l : List Int} {k : Nat} (h1 : 1 ≤ k) (h2 : k < l.length) : (swp l k l[k] l[k - 1]).Perm l := by
  obtain ⟨A, B, e, hA⟩ := two_at h1 h2
  generalize l[k] = b at e ⊢; generalize l[k - 1] = a at e ⊢
  rw [e, swp_two h1 hA]
  exact (List.Perm.swap _ _ _).append_left _
def nbs (l : List Int) (ps : List Nat) : List Int := runM l (ps.map fun k => (k, k + 1))
def Nb (n : Nat) (ps : List Nat) : Prop := ∀ k ∈ ps, 1 ≤ k ∧ k < n
theorem Nb.fits {n : Nat} {ps : List Nat} (h : Nb n ps) : Fits n (ps.map fun k => (k, k + 1)) := fun c hc => by
  obtain ⟨k, hk, rfl⟩ := List.mem_map.mp hc
  have := h k hk
  show 1 ≤ k ∧ k ≤ k + 1 ∧ k + 1 ≤ n
  omega
theorem nbs_cons (l : List Int) (k : Nat) (ps : List Nat) : nbs l (k :: ps) = nbs (seg l k (k + 1)) ps := rfl
theorem nbs_snoc (l : List Int) (k : Nat) (ps : List Nat) : nbs l (ps ++ [k]) = seg (nbs l ps) k (k + 1) := by unfold nbs; rw [List.map_append, runM_app]; rfl
theorem nbs_len {l : List Int} {ps : List Nat} (h : Nb l.length ps) : (nbs l ps).length = l.length := runM_len h.fits
theorem nbs_perm {l : List Int} {ps : List Nat} (h : Nb l.length ps) : (nbs l ps).Perm l := runM_perm _ _ h.fits
/-- the values ahead of place e, all but the one at place pl, do not rise -/
def Ins (l : List Int) (e pl : Nat) : Prop := ∀ a b, a < b → b ≤ e → b ≠ pl → l.getD b 0 ≤ l.getD a 0
def Down (l : List Int) (e : Nat) : Prop := ∀ a b, a < b → b < e → l.getD b 0 ≤ l.getD a 0
theorem swp_get {l : List Int} {k j : Nat} {x y : Int} (h1 : 1 ≤ k) (h2 : k < l.length) : (swp l k x y).getD j 0 = if j = k then y else if j = k - 1 then x else l.getD j 0 := by
  unfold swp
  simp only [List.getD_eq_getElem?_getD, List.getElem?_set, List.length_set]
  by_cases e1 : k = j
  · subst e1; simp [h2]
  · by_cases e2 : k - 1 = j
    · rw [if_neg e1, if_pos e2, if_pos (by omega), if_neg (Ne.symm e1), if_pos e2.symm]; rfl
    · rw [if_neg e1, if_neg e2, if_neg (Ne.symm e1), if_neg (Ne.symm e2)]
theorem getD_at {l : List Int} {k : Nat} (h : k < l.length) : l[k] = l.getD k 0 := by simp [List.getD, h]
theorem ins_step {l : List Int} {e pl : Nat} (h : Ins l e pl) (h1 : 1 ≤ pl) (h2 : pl < l.length) (h3 : pl ≤ e) (g : l[pl - 1] < l[pl]) : Ins (swp l pl l[pl] l[pl - 1]) e (pl - 1) := fun a b hab hb hne => by
  rw [swp_get h1 h2, swp_get h1 h2]
  rw [getD_at h2, getD_at (show pl - 1 < l.length by omega)] at *
  by_cases e1 : b = pl
  · rw [if_pos e1, if_neg (by omega)]
    split
    · omega
    · exact h a (pl - 1) (by omega) (by omega) (by omega)
  · rw [if_neg e1, if_neg hne]
    split
    · exact h (pl - 1) b (by omega) hb e1
    · split
      · exact h pl b (by omega) hb e1
      · exact h a b hab hb e1
theorem ins_done {l : List Int} {e pl : Nat} (h : Ins l e pl) (h2 : pl < l.length) (h3 : pl ≤ e) (g : pl = 0 ∨ ∃ h0 : 1 ≤ pl, ¬ l[pl - 1] < l[pl]) : Down l (e + 1) := fun a b hab hb => by
  by_cases e1 : b = pl
  · subst e1
    rcases g with g | ⟨h0, g⟩
    · omega
    · rw [getD_at h2, getD_at (show b - 1 < l.length by omega)] at g
      by_cases e2 : a = b - 1
      · rw [e2]; omega
      · have := h a (b - 1) (by omega) (by omega) (by omega)
        omega
  · exact h a b hab (by omega) e1
theorem ins_start {l : List Int} {e : Nat} (h : Down l e) : Ins l e e := fun a b hab hb hne => h a b hab (by omega)
def ascN (n : Nat) : List Int := (List.range n).map fun (i : Nat) => (1 + i : Int)
theorem desc_rev (n : Nat) : desc n = (ascN n).reverse := by
  refine List.ext_getElem (by simp [desc, ascN]) fun k h1 h2 => ?_
  have : k < n := by simpa [desc] using h1
  simp [desc, ascN]
  omega
theorem asc_up : ∀ n, (ascN n).Pairwise (· ≤ ·)
  | 0 => List.Pairwise.nil
  | n + 1 => by
    unfold ascN
    rw [List.range_succ, List.map_append]
    refine List.pairwise_append.mpr ⟨asc_up n, List.pairwise_singleton _ _, fun a ha b hb => ?_⟩
    obtain ⟨i, hi, rfl⟩ := List.mem_map.mp ha
    rw [List.map_singleton, List.mem_singleton] at hb
    have := List.mem_range.mp hi
    omega
theorem down_desc {l : List Int} {n : Nat} (hp : l.Perm (ascN n)) (h : Down l n) : l = desc n := by
  rw [desc_rev]
  have hl : l.length = n := by rw [hp.length_eq]; simp [ascN]
  have e : l.reverse = ascN n := up_unique ((List.reverse_perm l).trans hp) (by
    rw [List.pairwise_reverse, List.pairwise_iff_getElem]
    intro i j hi hj hij
    have := h i j hij (by omega)
    rw [← getD_at hi, ← getD_at hj] at this
    exact this) (asc_up n)
  rw [← e, List.reverse_reverse]
theorem desc_perm (n : Nat) : (desc n).Perm (ascN n) := by rw [desc_rev]; exact List.reverse_perm _
/-- each exchange changes the row at its turn -/
def Liv : List Int → List Nat → Prop
  | _, [] => True
  | l, k :: r => seg l k (k + 1) ≠ l ∧ Liv (seg l k (k + 1)) r
/-- the exchange places as they are found: one value sinks in -/
def bub : Nat → List Int → List Nat → List Int × List Nat
  | 0, l, ps => (l, ps)
  | k + 1, l, ps => if l.getD k 0 < l.getD (k + 1) 0 then bub k (swp l (k + 1) (l.getD (k + 1) 0) (l.getD k 0)) (ps ++ [k + 1]) else (l, ps)
def exU (E : List Int) : Nat → List Int × List Nat
  | 0 => (E, [])
  | i + 1 => bub (1 + i) (exU E i).1 (exU E i).2
def exM (E : List Int) : List Nat := (exU E (E.length - 1)).2.reverse
theorem bub_step {l : List Int} {k : Nat} {ps : List Nat} (h1 : 1 ≤ k) (h2 : k < l.length) (g : l[k - 1] < l[k]) : bub k l ps = bub (k - 1) (swp l k l[k] l[k - 1]) (ps ++ [k]) := by
  obtain ⟨j, rfl⟩ : ∃ j, k = j + 1 := ⟨k - 1, by omega⟩
  have a : l.getD j 0 = l[j] := (getD_at (by omega)).symm
  have b : l.getD (j + 1) 0 = l[j + 1] := (getD_at h2).symm
  rw [bub, a, b]
  exact if_pos g
theorem bub_done {l : List Int} {k : Nat} {ps : List Nat} (h2 : k < l.length) (g : k = 0 ∨ ∃ h0 : 1 ≤ k, ¬ l[k - 1] < l[k]) : bub k l ps = (l, ps) := by
  cases k with
  | zero => rfl
  | succ j =>
    rcases g with g | ⟨_, g⟩
    · omega
    have a : l.getD j 0 = l[j] := (getD_at (by omega)).symm
    have b : l.getD (j + 1) 0 = l[j + 1] := (getD_at h2).symm
    rw [bub, a, b]
    exact if_neg g
/-- a row on its way from an effect back to the descending arrangement -/
def Way (E l : List Int) (ps : List Nat) : Prop := l.Perm E ∧ Nb E.length ps ∧ nbs l ps.reverse = E ∧ Liv l ps.reverse
theorem way_nil (E : List Int) : Way E E [] := ⟨List.Perm.refl _, ⟨fun k hk => (by cases hk), rfl, trivial⟩⟩
theorem way_step {E l : List Int} {ps : List Nat} {k : Nat} (h : Way E l ps) (h1 : 1 ≤ k) (h2 : k < l.length) (g : l[k - 1] < l[k]) : Way E (swp l k l[k] l[k - 1]) (ps ++ [k]) := by
  refine ⟨(swp_perm h1 h2).trans h.1, fun j hj => ?_, ?_, ?_⟩
  · rcases List.mem_append.mp hj with z | z
    · exact h.2.1 j z
    · rw [List.mem_singleton.mp z, ← h.1.length_eq]; exact ⟨h1, h2⟩
  · rw [List.reverse_append]
    show nbs (seg (swp l k l[k] l[k - 1]) k (k + 1)) ps.reverse = E
    rw [nb_back h1 h2 g]
    exact h.2.2.1
  · rw [List.reverse_append]
    show seg (swp l k l[k] l[k - 1]) k (k + 1) ≠ swp l k l[k] l[k - 1] ∧ Liv (seg (swp l k l[k] l[k - 1]) k (k + 1)) ps.reverse
    rw [nb_back h1 h2 g]
    refine ⟨fun e => ?_, h.2.2.2⟩
    have e1 := swp_get (l := l) (k := k) (j := k) (x := l[k]) (y := l[k - 1]) h1 h2
    rw [← e, if_pos rfl, ← getD_at h2] at e1
    omega
/-- what stands for any script with an effect -/
def Stand (E : List Int) (ps : List Nat) : Prop := Nb E.length ps ∧ nbs (desc E.length) ps = E
theorem way_end {E l : List Int} {ps : List Nat} {n : Nat} (h : Way E l ps) (hE : E.Perm (ascN n)) (hd : Down l n) : Stand E ps.reverse := by
  have hn : E.length = n := by rw [hE.length_eq]; simp [ascN]
  refine ⟨fun k hk => h.2.1 k (List.mem_reverse.mp hk), ?_⟩
  rw [hn, ← down_desc (h.1.trans hE) hd]
  exact h.2.2.1
theorem way_liv {E l : List Int} {ps : List Nat} {n : Nat} (h : Way E l ps) (hE : E.Perm (ascN n)) (hd : Down l n) : Liv (desc n) ps.reverse := by
  rw [← down_desc (h.1.trans hE) hd]
  exact h.2.2.2
theorem stand_run {E l : List Int} {ps : List Nat} {cs : List Cmd} (h : Stand E ps) (hl : l.length = E.length) (hc : Fits E.length cs) (he : runM (desc E.length) cs = E) : nbs l ps = runM l cs := by
  refine same_eff (hl ▸ h.1.fits) (hl ▸ hc) ?_
  rw [hl, he]
  exact h.2
end My
namespace My
theorem seg_split {l : List Int} {i j : Nat} (h1 : i ≤ j) (h2 : j ≤ l.length) : ∃ A M B, l = A ++ M ++ B ∧ A.length = i - 1 ∧ M.length = j - (i - 1) ∧ seg l i j = A ++ srt M ++ B := by
  refine ⟨l.take (i - 1), (l.drop (i - 1)).take (j - (i - 1)), l.drop j, ?_, by rw [List.length_take]; omega, by rw [List.length_take, List.length_drop]; omega, rfl⟩
  conv => lhs; rw [← List.take_append_drop (i - 1) l, ← List.take_append_drop (j - (i - 1)) (l.drop (i - 1)), List.drop_drop]
  rw [List.append_assoc, show i - 1 + (j - (i - 1)) = j by omega]
theorem srt_id {l : List Int} (h : l.Pairwise (· ≤ ·)) : srt l = l := (srt_is (List.Perm.refl l) h).symm
theorem seg_app {A M B : List Int} {i j : Nat} (hA : A.length = i - 1) (hM : M.length = j - (i - 1)) (h : i ≤ j) : seg (A ++ M ++ B) i j = A ++ srt M ++ B := by
  unfold seg
  have e1 : (A ++ M ++ B).take (i - 1) = A := by rw [List.append_assoc, ← hA, List.take_left]
  have e2 : (A ++ M ++ B).drop (i - 1) = M ++ B := by rw [List.append_assoc, ← hA, List.drop_left]
  have e3 : (A ++ M ++ B).drop j = B := by rw [show j = (A ++ M).length by rw [List.length_append]; omega, List.drop_left]
  rw [e1, e2, e3, ← hM, List.take_left]
theorem step_twice {l : List Int} {c : Cmd} (h1 : c.1 ≤ c.2) (h2 : c.2 ≤ l.length) : step (step l c) c = step l c := by
  unfold step
  obtain ⟨A, M, B, _, hA, hM, e⟩ := seg_split h1 h2
  rw [e, seg_app hA (by rw [srt_len]; exact hM) h1, srt_id (srt_up M)]
end My
namespace My
def less (x : Int) (l : List Int) : Nat := (l.filter (fun y => decide (y < x))).length
def inv : List Int → Nat
  | [] => 0
  | x :: r => less x r + inv r
theorem less_perm {x : Int} {l m : List Int} (h : l.Perm m) : less x l = less x m := (h.filter _).length_eq
theorem less_cons (x y : Int) (r : List Int) : less x (y :: r) = (if y < x then 1 else 0) + less x r := by
  unfold less
  rw [List.filter_cons]
  by_cases h : y < x <;> simp [h]; omega
theorem inv_sorted : ∀ (s : List Int), s.Pairwise (· ≤ ·) → inv s = 0
  | [], _ => rfl
  | x :: r, h => by
    have h1 := List.pairwise_cons.mp h
    show less x r + inv r = 0
    rw [inv_sorted r h1.2]
    have : less x r = 0 := by
      unfold less
      rw [List.length_eq_zero_iff, List.filter_eq_nil_iff]
      intro y hy
      have := h1.1 y hy
      simp; omega
    omega
def invU (ns : List Int) : Nat → Nat
  | 0 => 0
  | i + 1 => invU ns i + less (ns.getD i 0) (ns.drop (i + 1))
theorem invU_cons (x : Int) (r : List Int) : ∀ i, invU (x :: r) (i + 1) = less x r + invU r i
  | 0 => by simp [invU]
  | i + 1 => by
    rw [invU, invU_cons x r i, invU]
    simp
    omega
theorem invU_all : ∀ ns : List Int, invU ns ns.length = inv ns
  | [] => rfl
  | x :: r => by rw [List.length_cons, invU_cons, invU_all r]; rfl
theorem less_le (x : Int) (l : List Int) : less x l ≤ l.length := List.length_filter_le _ _
theorem inv_le : ∀ ns : List Int, inv ns ≤ ns.length * ns.length
  | [] => Nat.le_refl _
  | x :: r => by
    have h1 := less_le x r
    have ih := inv_le r
    show less x r + inv r ≤ (r.length + 1) * (r.length + 1)
    rw [Nat.add_mul, Nat.mul_add, Nat.one_mul, Nat.mul_one]
    omega
def gt (x : Int) (l : List Int) : Nat := (l.filter (fun y => decide (x < y))).length
theorem inv_snoc (x : Int) : ∀ l : List Int, inv (l ++ [x]) = inv l + gt x l
  | [] => rfl
  | y :: r => by
    show less y (r ++ [x]) + inv (r ++ [x]) = less y r + inv r + gt x (y :: r)
    rw [inv_snoc x r]
    have e1 : less y (r ++ [x]) = less y r + if x < y then 1 else 0 := by
      unfold less
      rw [List.filter_append, List.length_append]
      by_cases h : x < y <;> simp [h]
    have e2 : gt x (y :: r) = (if x < y then 1 else 0) + gt x r := by
      unfold gt
      rw [List.filter_cons]
      by_cases h : x < y <;> simp [h]; omega
    omega
def gts (l : List Int) : Nat → List Int
  | 0 => []
  | i + 1 => gts l i ++ [((gt (l.getD i 0) (l.take i) : Nat) : Int)]
theorem gts_len (l : List Int) : ∀ i, (gts l i).length = i
  | 0 => rfl
  | i + 1 => by rw [gts, List.length_append, gts_len l i]; rfl
theorem gts_sum (l : List Int) : ∀ i, i ≤ l.length → (gts l i).sum = ((inv (l.take i) : Nat) : Int)
  | 0, _ => by simp [gts, inv]
  | i + 1, h => by
    have hi : i < l.length := h
    rw [gts, List.sum_append, gts_sum l i (by omega), List.take_add_one, List.getElem?_eq_getElem hi]
    show _ = ((inv (l.take i ++ [l[i]]) : Nat) : Int)
    rw [inv_snoc, show l.getD i 0 = l[i] by simp [List.getD, hi]]
    simp
theorem gt_less {x : Int} : ∀ {l : List Int}, x ∉ l → gt x l + less x l = l.length
  | [], _ => rfl
  | y :: r, h => by
    have h1 := gt_less (x := x) (l := r) (fun q => h (List.mem_cons_of_mem _ q))
    have h2 : x ≠ y := fun q => h (q ▸ List.mem_cons_self)
    rw [less_cons, List.length_cons]
    have e2 : gt x (y :: r) = (if x < y then 1 else 0) + gt x r := by
      unfold gt
      rw [List.filter_cons]
      by_cases h : x < y <;> simp [h]; omega
    rw [e2]
    by_cases h3 : x < y
    · rw [if_pos h3, if_neg (by omega)]; omega
    · rw [if_neg h3, if_pos (by omega)]; omega
theorem gt_perm {x : Int} {l m : List Int} (h : l.Perm m) : gt x l = gt x m := (h.filter _).length_eq
theorem inv_rev : ∀ l : List Int, l.Nodup → 2 * (inv l.reverse + inv l) + l.length = l.length * l.length
  | [], _ => rfl
  | x :: r, h => by
    have h1 := List.nodup_cons.mp h
    have ih := inv_rev r h1.2
    have g := gt_less h1.1
    rw [List.reverse_cons, inv_snoc, gt_perm (List.reverse_perm r), List.length_cons]
    show 2 * (inv r.reverse + gt x r + (less x r + inv r)) + (r.length + 1) = (r.length + 1) * (r.length + 1)
    have e : (r.length + 1) * (r.length + 1) = r.length * r.length + r.length + r.length + 1 := by rw [Nat.succ_mul, Nat.mul_succ]; omega
    rw [e]
    omega
end My
namespace My
def crs (a b : List Int) : Nat := (a.map fun x => less x b).sum
theorem less_app (x : Int) (a b : List Int) : less x (a ++ b) = less x a + less x b := by unfold less; rw [List.filter_append, List.length_append]
theorem inv_app : ∀ (a b : List Int), inv (a ++ b) = inv a + inv b + crs a b
  | [], b => by simp [inv, crs]
  | x :: r, b => by
    show less x (r ++ b) + inv (r ++ b) = less x r + inv r + inv b + ((less x b) + crs r b)
    rw [less_app, inv_app r b]; omega
theorem crs_right {a b c : List Int} (h : b.Perm c) : crs a b = crs a c := by
  unfold crs
  rw [show (fun x => less x b) = fun x => less x c from funext fun x => less_perm h]
theorem crs_left {a b c : List Int} (h : a.Perm b) : crs a c = crs b c := (h.map _).sum_nat
theorem inv_zero : ∀ {l : List Int}, inv l = 0 → l.Pairwise (· ≤ ·)
  | [], _ => List.Pairwise.nil
  | x :: r, h => by
    have h' : less x r + inv r = 0 := h
    refine List.pairwise_cons.mpr ⟨fun y hy => ?_, inv_zero (by omega)⟩
    have h0 : less x r = 0 := by omega
    unfold less at h0
    rw [List.length_eq_zero_iff, List.filter_eq_nil_iff] at h0
    have := h0 y hy
    simp at this; omega
theorem inv_mid (A M B : List Int) : inv (A ++ srt M ++ B) + inv M = inv (A ++ M ++ B) := by
  have p := srt_perm M
  rw [inv_app, inv_app, inv_app (A ++ M), inv_app A M, crs_right p, crs_left (p.append_left A), inv_sorted _ (srt_up M)]
  omega
theorem step_inv {l : List Int} {c : Cmd} (h1 : c.1 ≤ c.2) (h2 : c.2 ≤ l.length) : inv (step l c) ≤ inv l ∧ (inv (step l c) = inv l → step l c = l) := by
  obtain ⟨A, M, B, e, _, _, e2⟩ := seg_split h1 h2
  unfold step
  rw [e2]
  have k := inv_mid A M B
  rw [← e] at k
  refine ⟨by omega, fun q => ?_⟩
  have z : inv M = 0 := by omega
  rw [srt_id (inv_zero z), ← e]
theorem run_inv : ∀ (cs : List Cmd) (l : List Int), Fits l.length cs → inv (runM l cs) ≤ inv l ∧ (inv (runM l cs) = inv l → runM l cs = l)
  | [], _, _ => ⟨Nat.le_refl _, fun _ => rfl⟩
  | c :: r, l, h => by
    have hc := h c List.mem_cons_self
    have a := step_inv (l := l) hc.2.1 hc.2.2
    have hl : (step l c).length = l.length := seg_len hc.2.1 hc.2.2
    have b := run_inv r (step l c) (by rw [hl]; exact fun d hd => h d (List.mem_cons_of_mem _ hd))
    show inv (runM (step l c) r) ≤ inv l ∧ (inv (runM (step l c) r) = inv l → runM (step l c) r = l)
    refine ⟨by omega, fun q => ?_⟩
    have e1 := a.2 (by omega)
    rw [e1] at b q ⊢
    exact b.2 (by omega)
end My
namespace My
/-- the values at the places of a command, falling -/
def dstep (l : List Int) (c : Cmd) : List Int := l.take (c.1 - 1) ++ (srt ((l.drop (c.1 - 1)).take (c.2 - (c.1 - 1)))).reverse ++ l.drop c.2
theorem dstep_perm {l : List Int} {c : Cmd} (h1 : c.1 ≤ c.2) (h2 : c.2 ≤ l.length) : (dstep l c).Perm l := by
  unfold dstep
  have e : l = l.take (c.1 - 1) ++ (l.drop (c.1 - 1)).take (c.2 - (c.1 - 1)) ++ l.drop c.2 := by
    conv => lhs; rw [← List.take_append_drop (c.1 - 1) l, ← List.take_append_drop (c.2 - (c.1 - 1)) (l.drop (c.1 - 1)), List.drop_drop]
    rw [List.append_assoc, show c.1 - 1 + (c.2 - (c.1 - 1)) = c.2 by omega]
  conv => rhs; rw [e]
  exact (((List.reverse_perm _).trans (srt_perm _)).append_left _).append_right _
def backR (rs : List Cmd) (l : List Int) : List Int := rs.foldl dstep l
def backM (cs : List Cmd) (l : List Int) : List Int := backR cs.reverse l
theorem backR_perm : ∀ (rs : List Cmd) (l : List Int), Fits l.length rs → (backR rs l).Perm l
  | [], l, _ => List.Perm.refl l
  | c :: r, l, h => by
    have hc := h c List.mem_cons_self
    have p := dstep_perm hc.2.1 hc.2.2
    refine List.Perm.trans (backR_perm r (dstep l c) ?_) p
    rw [p.length_eq]
    exact fun d hd => h d (List.mem_cons_of_mem _ hd)
theorem Fits.rev {n : Nat} {cs : List Cmd} (h : Fits n cs) : Fits n cs.reverse := fun c hc => h c (List.mem_reverse.mp hc)
theorem backM_perm {cs : List Cmd} {l : List Int} (h : Fits l.length cs) : (backM cs l).Perm l := backR_perm _ _ h.rev
theorem backR_snoc (l : List Int) (cs : List Cmd) (c : Cmd) : backR (cs ++ [c]) l = dstep (backR cs l) c := by unfold backR; rw [List.foldl_append]; rfl
theorem down_is {l m : List Int} (h : m.Perm l) (u : m.Pairwise (· ≥ ·)) : m = (srt l).reverse := by
  have := srt_is (l := l) (m := m.reverse) ((List.reverse_perm m).trans h) (List.pairwise_reverse.mpr u)
  rw [← this, List.reverse_reverse]
theorem srt_eq {l m : List Int} (h : l.Perm m) : srt l = srt m := srt_is ((srt_perm l).trans h) (srt_up l)
theorem srt_run {l : List Int} {cs : List Cmd} (h : Fits l.length cs) : srt (runM l cs) = srt l := srt_eq (runM_perm cs l h)
/-- the value behind the first descent -/
def witM : List Int → Option Int
  | [] => none
  | [_] => none
  | x :: y :: r => if y < x then some y else witM (y :: r)
theorem wit_none : ∀ {l : List Int}, witM l = none → l.Pairwise (· ≤ ·)
  | [], _ => List.Pairwise.nil
  | [x], _ => List.pairwise_singleton _ _
  | x :: y :: r, h => by
    unfold witM at h
    split at h
    · cases h
    · rename_i g
      have ih := wit_none h
      refine List.pairwise_cons.mpr ⟨fun z hz => ?_, ih⟩
      rcases List.mem_cons.mp hz with e | e
      · rw [e]; omega
      · have := (List.pairwise_cons.mp ih).1 z e; omega
theorem wit_some : ∀ {l : List Int} {v : Int}, witM l = some v → ¬ (l.map fun x => if v < x then (1 : Int) else 0).Pairwise (· ≤ ·)
  | x :: y :: r, v, h => by
    unfold witM at h
    intro hp
    rw [List.map_cons] at hp
    have hp1 := List.pairwise_cons.mp hp
    split at h
    · rename_i g
      cases h
      have := hp1.1 _ (List.mem_map.mpr ⟨y, List.mem_cons_self, rfl⟩)
      rw [if_pos g, if_neg (by omega)] at this
      omega
    · exact wit_some h hp1.2
theorem wit_up {l : List Int} (h : l.Pairwise (· ≤ ·)) : witM l = none := by
  cases e : witM l with
  | none => rfl
  | some v =>
    refine absurd ?_ (wit_some e)
    rw [List.pairwise_map]
    exact h.imp fun {a b} hab => by split <;> split <;> omega
theorem wit_sorted {l : List Int} : witM l = none ↔ l = srt l := ⟨fun h => srt_is (List.Perm.refl _) (wit_none h), fun h => wit_up (h ▸ srt_up l)⟩
/-- sorting heeds the order alone -/
theorem srt_map {f : Int → Int} (hf : ∀ a b, a ≤ b → f a ≤ f b) (l : List Int) : srt (l.map f) = (srt l).map f :=
  (srt_is ((srt_perm l).map f) (List.pairwise_map.mpr ((srt_up l).imp fun {a b} h => hf a b h))).symm
theorem step_map {f : Int → Int} (hf : ∀ a b, a ≤ b → f a ≤ f b) (l : List Int) (c : Cmd) : step (l.map f) c = (step l c).map f := by
  unfold step seg
  rw [List.map_append, List.map_append, ← List.map_drop, ← List.map_take, ← List.map_take, ← List.map_drop, srt_map hf]
theorem run_map {f : Int → Int} (hf : ∀ a b, a ≤ b → f a ≤ f b) : ∀ (cs : List Cmd) (l : List Int), runM (l.map f) cs = (runM l cs).map f
  | [], _ => rfl
  | c :: r, l => by
    show runM (step (l.map f) c) r = (runM (step l c) r).map f
    rw [step_map hf, run_map hf r]
theorem bit_mono (v : Int) : ∀ a b : Int, a ≤ b → (if v < a then (1 : Int) else 0) ≤ if v < b then 1 else 0 := fun a b h => by split <;> split <;> omega
end My
namespace My
theorem most_zc {a b : List Int} : AtMost a b ↔ ∀ p q : Nat, zc b q p ≤ zc a q p := by
  unfold AtMost cnt zc
  simp only [List.countP_eq_length_filter]
theorem zc_low {l : List Int} {t : Int} (h : ∀ v ∈ l, 1 ≤ v) (ht : t < 1) (p : Nat) : zc l t p = 0 := List.countP_eq_zero.mpr fun v hv => by
  have := h v (List.mem_of_mem_take hv)
  simp; omega
theorem zc_rev {s : List Int} (t : Int) (h : s.Pairwise (· ≤ ·)) {k : Nat} (hk : k ≤ s.length) : zc s.reverse t k = s.countP (fun v => decide (v ≤ t)) - (s.length - k) := by
  have e : zc s.reverse t k = (s.drop (s.length - k)).countP (fun v => decide (v ≤ t)) := by
    unfold zc
    rw [List.take_reverse, List.countP_reverse]
  have e2 : (s.take (s.length - k)).countP (fun v => decide (v ≤ t)) + (s.drop (s.length - k)).countP (fun v => decide (v ≤ t)) = s.countP (fun v => decide (v ≤ t)) := by
    rw [← List.countP_append, List.take_append_drop]
  have e3 := up_zc t s (s.length - k) h
  unfold zc at e3
  have e4 : (s.drop (s.length - k)).countP (fun v => decide (v ≤ t)) ≤ k := Nat.le_trans List.countP_le_length (by rw [List.length_drop]; omega)
  rw [e]
  omega
theorem zc_dseg {l : List Int} {c : Cmd} (h1 : 1 ≤ c.1) (h2 : c.1 ≤ c.2) (h3 : c.2 ≤ l.length) (t : Int) (p : Nat) :
    zc (dstep l c) t p = if p < c.1 ∨ c.2 < p then zc l t p else max (zc l t (c.1 - 1)) (zc l t c.2 - (c.2 - p)) := by
  obtain ⟨i, j⟩ := c
  simp only at h1 h2 h3 ⊢
  obtain ⟨A, M, B, rfl, hA, hM⟩ : ∃ A M B, l = A ++ M ++ B ∧ A.length = i - 1 ∧ M.length = j - (i - 1) := by
    refine ⟨l.take (i - 1), (l.drop (i - 1)).take (j - (i - 1)), l.drop j, ?_, by rw [List.length_take]; omega, by rw [List.length_take, List.length_drop]; omega⟩
    conv => lhs; rw [← List.take_append_drop (i - 1) l, ← List.take_append_drop (j - (i - 1)) (l.drop (i - 1)), List.drop_drop]
    rw [List.append_assoc, show i - 1 + (j - (i - 1)) = j by omega]
  have e : dstep (A ++ M ++ B) (i, j) = A ++ (srt M).reverse ++ B := by
    unfold dstep
    simp only
    have e1 : (A ++ M ++ B).take (i - 1) = A := by rw [List.append_assoc, ← hA, List.take_left]
    have e2 : (A ++ M ++ B).drop (i - 1) = M ++ B := by rw [List.append_assoc, ← hA, List.drop_left]
    have e3 : (A ++ M ++ B).drop j = B := by rw [show j = (A ++ M).length by rw [List.length_append]; omega, List.drop_left]
    rw [e1, e2, e3, ← hM, List.take_left]
  rw [e]
  have hs : (srt M).length = M.length := srt_len M
  have cM : (srt M).countP (fun v => decide (v ≤ t)) = M.countP (fun v => decide (v ≤ t)) := (srt_perm M).countP_eq _
  simp only [zc_app, List.length_append, List.length_reverse, hs, hA, hM]
  rw [zc_all (l := A) (p := j) (by omega), zc_all (l := M) (p := j - (i - 1)) (by omega), show j - (i - 1 + (j - (i - 1))) = 0 by omega]
  rw [zc_all (l := A) (p := i - 1) (by omega), show i - 1 - (i - 1) = 0 by omega, show i - 1 - (i - 1 + (j - (i - 1))) = 0 by omega]
  have z0 : ∀ b : List Int, zc b t 0 = 0 := fun b => by simp [zc]
  rw [z0, z0]
  have hle := List.countP_le_length (p := fun v => decide (v ≤ t)) (l := M)
  by_cases g : p < i ∨ j < p
  · rw [if_pos g]
    rcases g with g | g
    · rw [show p - (i - 1) = 0 by omega]; rw [z0, z0]
    · rw [zc_all (l := M) (p := p - (i - 1)) (by omega), zc_all (l := (srt M).reverse) (p := p - (i - 1)) (by rw [List.length_reverse]; omega), List.countP_reverse, cM]
  · rw [if_neg g, zc_all (l := A) (p := p) (by omega), show p - (i - 1 + (j - (i - 1))) = 0 by omega, z0, zc_rev t (srt_up M) (by omega), cM, hs]
    omega
theorem most_refl (a : List Int) : AtMost a a := fun p q => Nat.le_refl _
theorem most_trans {a b c : List Int} (h : AtMost a b) (g : AtMost b c) : AtMost a c := fun p q => Nat.le_trans (g p q) (h p q)
theorem step_mono {l m : List Int} {c : Cmd} (h1 : 1 ≤ c.1) (h2 : c.1 ≤ c.2) (h3 : c.2 ≤ l.length) (h4 : c.2 ≤ m.length) (h : AtMost l m) : AtMost (step l c) (step m c) := by
  rw [most_zc] at h ⊢
  intro p q
  have e1 : zc (step l c) q p = _ := zc_seg (l := l) h1 h2 h3 q p
  have e2 : zc (step m c) q p = _ := zc_seg (l := m) h1 h2 h4 q p
  rw [e1, e2]
  have a1 := h p q
  have a2 := h (c.1 - 1) q
  have a3 := h c.2 q
  split <;> omega
theorem step_le {l : List Int} {c : Cmd} (h1 : 1 ≤ c.1) (h2 : c.1 ≤ c.2) (h3 : c.2 ≤ l.length) : AtMost (step l c) l := by
  rw [most_zc]
  intro p q
  have e1 : zc (step l c) q p = _ := zc_seg (l := l) h1 h2 h3 q p
  rw [e1]
  split
  · exact Nat.le_refl _
  · rename_i g
    have m1 := zc_mono (l := l) (t := q) (p := c.1 - 1) (p - (c.1 - 1))
    have m2 := zc_mono (l := l) (t := q) (p := p) (c.2 - p)
    rw [show c.1 - 1 + (p - (c.1 - 1)) = p by omega] at m1
    rw [show p + (c.2 - p) = c.2 by omega] at m2
    omega
theorem gal_step {l m : List Int} {c : Cmd} (h1 : 1 ≤ c.1) (h2 : c.1 ≤ c.2) (h3 : c.2 ≤ l.length) (h4 : c.2 ≤ m.length) : AtMost (step l c) m ↔ AtMost l (dstep m c) := by
  rw [most_zc, most_zc]
  have e1 : ∀ (q p : Nat), zc (step l c) q p = _ := fun q p => zc_seg (l := l) h1 h2 h3 q p
  have e2 : ∀ (q p : Nat), zc (dstep m c) q p = _ := fun q p => zc_dseg (l := m) h1 h2 h4 q p
  constructor
  · intro h p q
    rw [e2]
    have a0 := h p q
    have a1 := h (c.1 - 1) q
    have a2 := h c.2 q
    rw [e1] at a0 a1 a2
    rw [if_pos (by omega)] at a1
    rw [if_neg (by omega)] at a2
    split
    · rename_i g
      rw [if_pos g] at a0
      exact a0
    · rename_i g
      have m1 := zc_mono (l := l) (t := q) (p := c.1 - 1) (p - (c.1 - 1))
      have m2 := zc_mono (l := l) (t := q) (p := p) (c.2 - p)
      rw [show c.1 - 1 + (p - (c.1 - 1)) = p by omega] at m1
      rw [show p + (c.2 - p) = c.2 by omega] at m2
      omega
  · intro h p q
    rw [e1]
    have a0 := h p q
    have a1 := h (c.1 - 1) q
    have a2 := h c.2 q
    rw [e2] at a0 a1 a2
    rw [if_pos (by omega)] at a1
    rw [if_neg (by omega)] at a2
    split
    · rename_i g
      rw [if_pos g] at a0
      exact a0
    · rename_i g
      have m1 := zc_mono (l := m) (t := q) (p := c.1 - 1) (p - (c.1 - 1))
      have m2 := zc_mono (l := m) (t := q) (p := p) (c.2 - p)
      rw [show c.1 - 1 + (p - (c.1 - 1)) = p by omega] at m1
      rw [show p + (c.2 - p) = c.2 by omega] at m2
      omega
theorem back_cons (c : Cmd) (r : List Cmd) (m : List Int) : backM (c :: r) m = dstep (backM r m) c := by
  unfold backM
  rw [List.reverse_cons, backR_snoc]
theorem back_app (a b : List Cmd) (m : List Int) : backM (a ++ b) m = backM a (backM b m) := by
  unfold backM backR
  rw [List.reverse_append, List.foldl_append]
theorem gal_run : ∀ (cs : List Cmd) {l m : List Int}, l.length = m.length → Fits m.length cs → (AtMost (runM l cs) m ↔ AtMost l (backM cs m))
  | [], _, _, _, _ => Iff.rfl
  | c :: r, l, m, hl, h => by
    have hc := h c List.mem_cons_self
    have hr : Fits m.length r := fun d hd => h d (List.mem_cons_of_mem _ hd)
    have hb : (backM r m).length = m.length := (backM_perm hr).length_eq
    have hs : (step l c).length = l.length := seg_len hc.2.1 (by omega)
    show AtMost (runM (step l c) r) m ↔ _
    rw [gal_run r (by rw [hs, hl]) hr, back_cons, gal_step hc.1 hc.2.1 (by omega) (by omega)]
theorem run_mono : ∀ (cs : List Cmd) {l m : List Int}, l.length = m.length → Fits m.length cs → AtMost l m → AtMost (runM l cs) (runM m cs)
  | [], _, _, _, _, h => h
  | c :: r, l, m, hl, hf, h => by
    have hc := hf c List.mem_cons_self
    have hs : (step l c).length = l.length := seg_len hc.2.1 (by omega)
    have hs2 : (step m c).length = m.length := seg_len hc.2.1 hc.2.2
    exact run_mono r (by rw [hs, hs2, hl]) (by rw [hs2]; exact fun d hd => hf d (List.mem_cons_of_mem _ hd)) (step_mono hc.1 hc.2.1 (by omega) (by omega) h)
theorem run_le : ∀ (cs : List Cmd) {l : List Int}, Fits l.length cs → AtMost (runM l cs) l
  | [], l, _ => most_refl l
  | c :: r, l, hf => by
    have hc := hf c List.mem_cons_self
    have hs : (step l c).length = l.length := seg_len hc.2.1 hc.2.2
    exact most_trans (run_le r (by rw [hs]; exact fun d hd => hf d (List.mem_cons_of_mem _ hd))) (step_le hc.1 hc.2.1 hc.2.2)
theorem perm_pos {l : List Int} {n : Nat} (h : l.Perm (ascN n)) : ∀ v ∈ l, 1 ≤ v := fun v hv => by
  obtain ⟨k, _, rfl⟩ := List.mem_map.mp (h.mem_iff.mp hv)
  omega
theorem most_anti {a b : List Int} {n : Nat} (ha : a.Perm (ascN n)) (hb : b.Perm (ascN n)) (h : AtMost a b) (g : AtMost b a) : a = b := by
  rw [most_zc] at h g
  refine zc_ext (ha.length_eq.trans hb.length_eq.symm) fun t p _ => ?_
  by_cases ht : t < 1
  · rw [zc_low (perm_pos ha) ht, zc_low (perm_pos hb) ht]
  · obtain ⟨q, rfl⟩ := Int.eq_ofNat_of_zero_le (show 0 ≤ t by omega)
    exact Nat.le_antisymm (g p q) (h p q)
theorem asc_least {m : List Int} {n : Nat} (h : m.Perm (ascN n)) : AtMost (ascN n) m := by
  rw [most_zc]
  intro p q
  rw [up_zc (q : Int) (ascN n) p (asc_up n), ← h.countP_eq]
  refine Nat.le_min.mpr ⟨zc_le m q p, ?_⟩
  exact (List.take_sublist p m).countP_le
theorem least_is {m : List Int} {n : Nat} (h : m.Perm (ascN n)) (g : AtMost m (ascN n)) : m = ascN n := most_anti h (List.Perm.refl _) g (asc_least h)
theorem ascN_length' (n : Nat) : (ascN n).length = n := by simp [ascN]
theorem run_perm_n {l : List Int} {n : Nat} {cs : List Cmd} (h : l.Perm (ascN n)) (hf : Fits n cs) : (runM l cs).Perm (ascN n) := (runM_perm cs l (by rw [h.length_eq, ascN_length']; exact hf)).trans h
theorem back_perm_n {l : List Int} {n : Nat} {cs : List Cmd} (h : l.Perm (ascN n)) (hf : Fits n cs) : (backM cs l).Perm (ascN n) := (backM_perm (by rw [h.length_eq, ascN_length']; exact hf)).trans h
theorem perm_len {l : List Int} {n : Nat} (h : l.Perm (ascN n)) : l.length = n := by rw [h.length_eq, ascN_length']
/-- a row gets sorted exactly if it is at most the greatest row that does -/
theorem sorted_iff {l : List Int} {n : Nat} {cs : List Cmd} (h : l.Perm (ascN n)) (hf : Fits n cs) : runM l cs = ascN n ↔ AtMost l (backM cs (ascN n)) := by
  rw [← gal_run cs (by rw [perm_len h, ascN_length']) (by rw [ascN_length']; exact hf)]
  exact ⟨fun e => e ▸ most_refl _, fun g => least_is (run_perm_n h hf) g⟩
/-- the greatest row before a row is led to at most it -/
theorem back_run {m : List Int} {n : Nat} {cs : List Cmd} (h : m.Perm (ascN n)) (hf : Fits n cs) : AtMost (runM (backM cs m) cs) m :=
  (gal_run cs (by rw [perm_len (back_perm_n h hf), perm_len h]) (by rw [perm_len h]; exact hf)).mpr (most_refl _)
theorem to_back {l : List Int} {n : Nat} {cs : List Cmd} (h : l.Perm (ascN n)) (hf : Fits n cs) : AtMost l (backM cs (runM l cs)) := by
  have hl := perm_len (run_perm_n h hf)
  exact (gal_run cs (by rw [hl, perm_len h]) (by rw [hl]; exact hf)).mp (most_refl _)
/-- what a script made is made of the greatest row before it -/
theorem made_back {l : List Int} {n : Nat} {cs : List Cmd} (h : l.Perm (ascN n)) (hf : Fits n cs) : runM (backM cs (runM l cs)) cs = runM l cs := by
  have hr := run_perm_n h hf
  have hb := back_perm_n hr hf
  refine most_anti (run_perm_n hb hf) hr (back_run hr hf) ?_
  exact run_mono cs (by rw [perm_len h, perm_len hb]) (by rw [perm_len hb]; exact hf) (to_back h hf)
theorem back_mono {l m : List Int} {n : Nat} {cs : List Cmd} (h : l.Perm (ascN n)) (g : m.Perm (ascN n)) (hf : Fits n cs) (a : AtMost l m) : AtMost (backM cs l) (backM cs m) := by
  have hb := back_perm_n h hf
  refine (gal_run cs (by rw [perm_len hb, perm_len g]) (by rw [perm_len g]; exact hf)).mp (most_trans (back_run h hf) a)
/-- every arrangement is at most the falling one -/
theorem desc_most {m : List Int} {n : Nat} (h : m.Perm (ascN n)) : AtMost m (desc n) := by
  have hl := perm_len h
  refine (most_iff (arr_asc h) (arr_asc (desc_perm n)) (by rw [hl, desc_len])).mpr fun p hp q hq => ?_
  rw [hl] at hp hq
  have cz : ∀ (l : List Int), cnt l p q = zc l q p := fun l => by unfold cnt zc; rw [List.countP_eq_length_filter]
  rw [cz, cz]
  have eq' : ((n : Int) - ((n - q : Nat) : Int)) = (q : Int) := by omega
  have d1 := zc_desc (n := n) (n - q) (by omega) p hp
  have d2 := zc_desc (n := n) (n - q) (by omega) n (Nat.le_refl _)
  rw [eq'] at d1 d2
  have e1 : zc m q n = zc (desc n) q n := by
    rw [zc_all (by rw [hl]; exact Nat.le_refl _), zc_all (by rw [desc_len]; exact Nat.le_refl _), (h.trans (desc_perm n).symm).countP_eq]
  have m1 := (zc_mono (l := m) (t := q) (p := p) (n - p)).2
  rw [show p + (n - p) = n by omega] at m1
  omega
/-- a script whose effect is at most another one's leads all rows to at most what the other one does -/
theorem eff_most {l : List Int} {n : Nat} {cs ds : List Cmd} (hl : l.length = n) (hc : Fits n cs) (hd : Fits n ds) (h : AtMost (runM (desc n) cs) (runM (desc n) ds)) : AtMost (runM l cs) (runM l ds) := by
  have a := told_run (n := n) (l0 := l) cs l (desc n) hc (by have := told_nil (l := l); rwa [hl] at this)
  have b := told_run (n := n) (l0 := l) ds l (desc n) hd (by have := told_nil (l := l); rwa [hl] at this)
  rw [most_zc] at h ⊢
  have key : ∀ p, p ≤ n → ∀ q : Nat, zc (runM l ds) q p ≤ zc (runM l cs) q p := fun p hp q => by
    obtain ⟨k, hk, e1⟩ := (a.2.2 q p hp).2
    have e2 := (b.2.2 q p hp).1 k hk
    have e3 := h p (n - k)
    rw [show (((n - k : Nat) : Nat) : Int) = (n : Int) - (k : Int) by omega] at e3
    omega
  intro p q
  by_cases hp : p ≤ n
  · exact key p hp q
  · have := key n (Nat.le_refl _) q
    rw [zc_all (l := runM l ds) (p := p) (by rw [b.1]; omega), zc_all (l := runM l cs) (p := p) (by rw [a.1]; omega)]
    rw [zc_all (l := runM l ds) (p := n) (by rw [b.1]; exact Nat.le_refl _), zc_all (l := runM l cs) (p := n) (by rw [a.1]; exact Nat.le_refl _)] at this
    exact this
theorem srt_asc {l : List Int} {n : Nat} (h : l.Perm (ascN n)) : srt l = ascN n := (srt_is h.symm (asc_up n)).symm
end My
namespace My
/-- whether some command holds both this place and the next one -/
def lnk (cs : List Cmd) (p : Nat) : Bool := cs.any fun c => decide (c.1 ≤ p) && decide (p < c.2)
/-- the flags of the places 1 to n -/
def flg (n : Nat) (cs : List Cmd) : List Bool := (List.range n).map fun k => lnk cs (k + 1)
/-- blocks so far: closed ones, and where the open one begins, behind i places -/
def blkU (cs : List Cmd) : Nat → List Cmd × Nat
  | 0 => ([], 1)
  | i + 1 => if lnk cs (i + 1) then blkU cs i else ((blkU cs i).1 ++ [((blkU cs i).2, i + 1)], i + 2)
def blkM (n : Nat) (cs : List Cmd) : List Cmd := (blkU cs n).1
theorem flg_len (n : Nat) (cs : List Cmd) : (flg n cs).length = n := by simp [flg]
theorem flg_at {n : Nat} {cs : List Cmd} {i : Nat} (h : i < (flg n cs).length) : (flg n cs)[i] = lnk cs (i + 1) := by simp [flg]
end My
namespace My
open L2
theorem set_fun {α : Type} (f g : Nat → α) {n k : Nat} {v : α} (h : ∀ i, i < n → g i = if i = k then v else f i) : ((List.range n).map f).set k v = (List.range n).map g := by
  refine List.ext_getElem (by simp) fun i h1 h2 => ?_
  have hi : i < n := by simpa using h2
  rw [List.getElem_set, List.getElem_map, List.getElem_map, List.getElem_range, h i hi]
  by_cases e : k = i
  · rw [if_pos e, if_pos e.symm]
  · rw [if_neg e, if_neg fun z => e z.symm]
theorem lnk_snoc (cs : List Cmd) (c : Cmd) (p : Nat) : lnk (cs ++ [c]) p = (lnk cs p || (decide (c.1 ≤ p) && decide (p < c.2))) := by
  unfold lnk; rw [List.any_append]; simp
/-- flags amid the walk over a command -/
def flgU (n : Nat) (cs : List Cmd) (c : Cmd) (j : Nat) : List V := (List.range n).map fun i => V.bl (lnk cs (i + 1) || (decide (c.1 ≤ i + 1) && decide (i + 1 < c.1 + j)))
theorem flgU_0 (n : Nat) (cs : List Cmd) (c : Cmd) : flgU n cs c 0 = (flg n cs).map V.bl := by
  unfold flgU flg
  rw [List.map_map]
  refine List.map_congr_left fun i _ => ?_
  have : (decide (c.1 ≤ i + 1) && decide (i + 1 < c.1 + 0)) = false := by
    by_cases h : c.1 ≤ i + 1
    · rw [decide_eq_false (by omega : ¬ i + 1 < c.1 + 0)]; simp
    · rw [decide_eq_false h]; rfl
  rw [this]; simp
theorem flgU_end (n : Nat) (cs : List Cmd) (c : Cmd) (h : c.1 ≤ c.2) : flgU n cs c (c.2 - c.1) = (flg n (cs ++ [c])).map V.bl := by
  unfold flgU flg
  rw [List.map_map]
  refine List.map_congr_left fun i _ => ?_
  show V.bl _ = V.bl (lnk (cs ++ [c]) (i + 1))
  rw [lnk_snoc, show c.1 + (c.2 - c.1) = c.2 by omega]
theorem flgU_set (n : Nat) (cs : List Cmd) (c : Cmd) (j : Nat) (h1 : 1 ≤ c.1) : (flgU n cs c j).set (c.1 + j - 1) (V.bl true) = flgU n cs c (j + 1) := by
  unfold flgU
  refine set_fun _ _ fun i hi => ?_
  by_cases e : i = c.1 + j - 1
  · subst e
    rw [if_pos rfl, decide_eq_true (by omega : c.1 ≤ c.1 + j - 1 + 1), decide_eq_true (by omega : c.1 + j - 1 + 1 < c.1 + (j + 1))]; simp
  · rw [if_neg e]
    have : decide (i + 1 < c.1 + (j + 1)) = decide (i + 1 < c.1 + j) ∨ ¬ c.1 ≤ i + 1 := by
      by_cases g : c.1 ≤ i + 1
      · left; exact decide_eq_decide.mpr ⟨fun _ => by omega, fun _ => by omega⟩
      · right; exact g
    rcases this with g | g
    · rw [g]
    · rw [decide_eq_false g]; rfl
theorem flgU_len (n : Nat) (cs : List Cmd) (c : Cmd) (j : Nat) : (flgU n cs c j).length = n := by simp [flgU]
theorem flg_nil (n : Nat) : (List.replicate n [V.bl false]).flatten = (flg n []).map V.bl := by
  unfold flg lnk
  rw [List.map_map]
  induction n with
  | zero => rfl
  | succ n ih =>
    rw [List.replicate_succ', List.flatten_append, ih, List.range_succ, List.map_append]; rfl
end My
namespace My
/-! the arrangements that a script leaves as they are -/
theorem up_adj : ∀ {l : List Int}, (∀ i, i + 1 < l.length → l.getD i 0 ≤ l.getD (i + 1) 0) → l.Pairwise (· ≤ ·)
  | [], _ => List.Pairwise.nil
  | [x], _ => List.pairwise_singleton _ _
  | x :: y :: r, h => by
    have h0 : x ≤ y := h 0 (by simp)
    have ih := up_adj (l := y :: r) fun i hi => h (i + 1) (by simpa using hi)
    refine List.pairwise_cons.mpr ⟨fun z hz => ?_, ih⟩
    rcases List.mem_cons.mp hz with e | e
    · rw [e]; exact h0
    · exact Int.le_trans h0 ((List.pairwise_cons.mp ih).1 z e)
theorem adj_up {l : List Int} (h : l.Pairwise (· ≤ ·)) {i : Nat} (hi : i + 1 < l.length) : l.getD i 0 ≤ l.getD (i + 1) 0 := by
  have := List.pairwise_iff_getElem.mp h i (i + 1) (by omega) hi (by omega)
  simpa [List.getD, hi, show i < l.length by omega] using this
theorem str_adj {l : List Int} {a b : Nat} (h1 : 1 ≤ a) (h2 : b ≤ l.length) : ((l.drop (a - 1)).take (b - (a - 1))).Pairwise (· ≤ ·) ↔ ∀ p, a ≤ p → p < b → l.getD (p - 1) 0 ≤ l.getD p 0 := by
  have hg : ∀ i, i < b - (a - 1) → ((l.drop (a - 1)).take (b - (a - 1))).getD i 0 = l.getD (a - 1 + i) 0 := fun i hi => by
    simp [List.getD, List.getElem?_take, hi, List.getElem?_drop]
  have hl : ((l.drop (a - 1)).take (b - (a - 1))).length = b - (a - 1) := by rw [List.length_take, List.length_drop]; omega
  constructor
  · intro h p hp1 hp2
    have := adj_up h (i := p - a) (by rw [hl]; omega)
    rw [hg _ (by omega), hg _ (by omega), show a - 1 + (p - a) = p - 1 by omega, show a - 1 + (p - a + 1) = p by omega] at this
    exact this
  · intro h
    refine up_adj fun i hi => ?_
    rw [hl] at hi
    rw [hg _ (by omega), hg _ (by omega)]
    have := h (a + i) (by omega) (by omega)
    rw [show a + i - 1 = a - 1 + i by omega] at this
    rw [show a - 1 + (i + 1) = a + i by omega]
    exact this
theorem step_fix {l : List Int} {c : Cmd} (h1 : 1 ≤ c.1) (h2 : c.1 ≤ c.2) (h3 : c.2 ≤ l.length) : step l c = l ↔ ∀ p, c.1 ≤ p → p < c.2 → l.getD (p - 1) 0 ≤ l.getD p 0 := by
  rw [← str_adj h1 h3]
  have e0 : l.take (c.1 - 1) ++ (l.drop (c.1 - 1)).take (c.2 - (c.1 - 1)) ++ l.drop c.2 = l := by
    conv => rhs; rw [← List.take_append_drop (c.1 - 1) l, ← List.take_append_drop (c.2 - (c.1 - 1)) (l.drop (c.1 - 1)), List.drop_drop, show c.1 - 1 + (c.2 - (c.1 - 1)) = c.2 by omega]
    rw [List.append_assoc]
  constructor
  · intro e
    have e1 : l.take (c.1 - 1) ++ srt ((l.drop (c.1 - 1)).take (c.2 - (c.1 - 1))) ++ l.drop c.2 = l.take (c.1 - 1) ++ (l.drop (c.1 - 1)).take (c.2 - (c.1 - 1)) ++ l.drop c.2 := by
      rw [e0]; exact e
    have e2 := List.append_cancel_left (List.append_cancel_right e1 |>.trans rfl)
    rw [← e2]; exact srt_up _
  · intro h
    show l.take (c.1 - 1) ++ srt ((l.drop (c.1 - 1)).take (c.2 - (c.1 - 1))) ++ l.drop c.2 = l
    rw [srt_id h]; exact e0
theorem run_fix_all : ∀ (cs : List Cmd) (l : List Int), Fits l.length cs → (runM l cs = l ↔ ∀ c ∈ cs, step l c = l)
  | [], l, _ => ⟨(fun _ c hc => by cases hc), fun _ => rfl⟩
  | c :: r, l, hf => by
    have hc := hf c List.mem_cons_self
    have hs : (step l c).length = l.length := seg_len hc.2.1 hc.2.2
    have hr : Fits l.length r := fun d hd => hf d (List.mem_cons_of_mem _ hd)
    have i1 := step_inv hc.2.1 hc.2.2
    have i2 := run_inv r (step l c) (by rw [hs]; exact hr)
    constructor
    · intro h
      have h' : runM (step l c) r = l := h
      rw [h'] at i2
      have e : step l c = l := i1.2 (by omega)
      rw [e] at h'
      have ih := (run_fix_all r l hr).mp h'
      intro d hd
      rcases List.mem_cons.mp hd with g | g
      · rw [g]; exact e
      · exact ih d g
    · intro h
      show runM (step l c) r = l
      rw [h c List.mem_cons_self]
      exact (run_fix_all r l hr).mpr fun d hd => h d (List.mem_cons_of_mem _ hd)
theorem lnk_iff {cs : List Cmd} {p : Nat} : lnk cs p = true ↔ ∃ c ∈ cs, c.1 ≤ p ∧ p < c.2 := by
  unfold lnk
  rw [List.any_eq_true]
  constructor
  · rintro ⟨c, hc, e⟩; simp at e; exact ⟨c, hc, e⟩
  · rintro ⟨c, hc, e1, e2⟩; exact ⟨c, hc, by simp [e1, e2]⟩
theorem fix_lnk {cs : List Cmd} {l : List Int} (hf : Fits l.length cs) : runM l cs = l ↔ ∀ p, lnk cs p = true → l.getD (p - 1) 0 ≤ l.getD p 0 := by
  rw [run_fix_all cs l hf]
  constructor
  · intro h p hp
    obtain ⟨c, hc, e1, e2⟩ := lnk_iff.mp hp
    have hc' := hf c hc
    exact (step_fix hc'.1 hc'.2.1 hc'.2.2).mp (h c hc) p e1 e2
  · intro h c hc
    have hc' := hf c hc
    exact (step_fix hc'.1 hc'.2.1 hc'.2.2).mpr fun p h1 h2 => h p (lnk_iff.mpr ⟨c, hc, h1, h2⟩)
/-- blocks that lie one behind the other -/
def Tile : Nat → List Cmd → Nat → Prop
  | s, [], e => s = e
  | s, c :: r, e => c.1 = s ∧ s ≤ c.2 ∧ Tile (c.2 + 1) r e
theorem tile_snoc : ∀ {bs : List Cmd} {s m : Nat} {c : Cmd}, Tile s bs m → c.1 = m → m ≤ c.2 → Tile s (bs ++ [c]) (c.2 + 1)
  | [], _, _, _, h, h1, h2 => ⟨h1.trans h.symm, by rw [show _ = _ from h]; exact h2, rfl⟩
  | _ :: _, _, _, _, h, h1, h2 => ⟨h.1, h.2.1, tile_snoc h.2.2 h1 h2⟩
theorem blkU_ok (cs : List Cmd) : ∀ i, Tile 1 (blkU cs i).1 (blkU cs i).2 ∧ 1 ≤ (blkU cs i).2 ∧ (blkU cs i).2 ≤ i + 1 ∧ (∀ p, (blkU cs i).2 ≤ p → p ≤ i → lnk cs p = true) ∧ (∀ c ∈ (blkU cs i).1, lnk cs c.2 = false ∧ ∀ p, c.1 ≤ p → p < c.2 → lnk cs p = true)
  | 0 => ⟨rfl, Nat.le_refl _, Nat.le_refl _, (fun p h1 h2 => by have : (blkU cs 0).2 = 1 := rfl; omega), fun c hc => by cases hc⟩
  | i + 1 => by
    obtain ⟨h1, h2, h3, h4, h5⟩ := blkU_ok cs i
    have e : blkU cs (i + 1) = if lnk cs (i + 1) then blkU cs i else ((blkU cs i).1 ++ [((blkU cs i).2, i + 1)], i + 2) := rfl
    by_cases g : lnk cs (i + 1) = true
    · rw [e, if_pos g]
      refine ⟨h1, h2, by omega, fun p hp1 hp2 => ?_, h5⟩
      by_cases q : p ≤ i
      · exact h4 p hp1 q
      · rw [show p = i + 1 by omega]; exact g
    · rw [e, if_neg g]
      refine ⟨tile_snoc (c := ((blkU cs i).2, i + 1)) h1 rfl h3, by show 1 ≤ i + 2; omega, Nat.le_refl _, (fun p hp1 hp2 => by have : i + 2 ≤ p := hp1; omega), fun c hc => ?_⟩
      rcases List.mem_append.mp hc with q | q
      · exact h5 c q
      · rw [List.mem_singleton.mp q]
        exact ⟨by simpa using g, fun p hp1 hp2 => h4 p hp1 (by have : p < i + 1 := hp2; omega)⟩
theorem blkM_ok {n : Nat} {cs : List Cmd} (hf : Fits n cs) (hn : 1 ≤ n) : Tile 1 (blkM n cs) (n + 1) ∧ ∀ c ∈ blkM n cs, lnk cs c.2 = false ∧ ∀ p, c.1 ≤ p → p < c.2 → lnk cs p = true := by
  obtain ⟨h1, h2, h3, h4, h5⟩ := blkU_ok cs n
  have hl : lnk cs n = false := by
    cases e : lnk cs n with
    | false => rfl
    | true =>
      obtain ⟨c, hc, e1, e2⟩ := lnk_iff.mp e
      have := hf c hc
      omega
  have hs : (blkU cs n).2 = n + 1 := by
    apply Classical.byContradiction
    intro g
    have := h4 n (by omega) (Nat.le_refl n)
    rw [hl] at this; cases this
  exact ⟨by rw [hs] at h1; exact h1, h5⟩
theorem tile_mem : ∀ {bs : List Cmd} {s e p : Nat}, Tile s bs e → s ≤ p → p < e → ∃ c ∈ bs, c.1 ≤ p ∧ p ≤ c.2
  | [], s, e, p, h, h1, h2 => by have : s = e := h; omega
  | c :: r, s, e, p, h, h1, h2 => by
    by_cases q : p ≤ c.2
    · exact ⟨c, List.mem_cons_self, by rw [h.1]; exact h1, q⟩
    · obtain ⟨d, hd, g⟩ := tile_mem h.2.2 (by omega) h2
      exact ⟨d, List.mem_cons_of_mem _ hd, g⟩
theorem tile_le : ∀ {bs : List Cmd} {s e : Nat}, Tile s bs e → s ≤ e ∧ ∀ c ∈ bs, s ≤ c.1 ∧ c.1 ≤ c.2 ∧ c.2 < e
  | [], s, e, h => ⟨Nat.le_of_eq h, fun c hc => by cases hc⟩
  | c :: r, s, e, h => by
    obtain ⟨h1, h2⟩ := tile_le h.2.2
    have h3 := h.1
    have h4 := h.2.1
    refine ⟨by omega, fun d hd => ?_⟩
    rcases List.mem_cons.mp hd with g | g
    · rw [g]; exact ⟨by omega, by omega, by omega⟩
    · obtain ⟨a, b, c'⟩ := h2 d g
      exact ⟨by omega, b, c'⟩
/-- the rows that rise along each block -/
def RiseB (bs : List Cmd) (l : List Int) : Prop := ∀ c ∈ bs, ∀ p, c.1 ≤ p → p < c.2 → l.getD (p - 1) 0 ≤ l.getD p 0
theorem fix_rise {n : Nat} {cs : List Cmd} {l : List Int} (hf : Fits n cs) (hn : 1 ≤ n) (hl : l.length = n) : runM l cs = l ↔ RiseB (blkM n cs) l := by
  obtain ⟨h1, h2⟩ := blkM_ok hf hn
  rw [fix_lnk (by rw [hl]; exact hf)]
  constructor
  · intro h c hc p hp1 hp2
    exact h p ((h2 c hc).2 p hp1 hp2)
  · intro h p hp
    obtain ⟨c0, hc0, e1, e2⟩ := lnk_iff.mp hp
    have := hf c0 hc0
    obtain ⟨c, hc, g1, g2⟩ := tile_mem h1 (p := p) (by omega) (by omega)
    refine h c hc p g1 ?_
    rcases Nat.lt_or_eq_of_le g2 with g | g
    · exact g
    · have := (h2 c hc).1
      rw [← g, hp] at this; cases this
/-! choices -/
def chs : List Int → Nat → List (List Int)
  | _, 0 => [[]]
  | [], _ + 1 => []
  | v :: r, k + 1 => (chs r k).map (fun t => v :: t) ++ chs r (k + 1)
theorem chs_zero (vs : List Int) : chs vs 0 = [[]] := by cases vs <;> rfl
theorem chs_len : ∀ (vs : List Int) (k : Nat), (chs vs k).length = Xk.cmb vs.length k
  | [], 0 => rfl
  | _ :: _, 0 => rfl
  | [], _ + 1 => rfl
  | v :: r, k + 1 => by
    show ((chs r k).map _ ++ chs r (k + 1)).length = Xk.cmb r.length k + Xk.cmb r.length (k + 1)
    rw [List.length_append, List.length_map, chs_len r k, chs_len r (k + 1)]
theorem chs_mem : ∀ {vs : List Int} {k : Nat} {c : List Int}, c ∈ chs vs k ↔ c.Sublist vs ∧ c.length = k
  | vs, 0, c => by
    rw [chs_zero, List.mem_singleton]
    exact ⟨fun h => by rw [h]; exact ⟨List.nil_sublist _, rfl⟩, fun h => List.eq_nil_of_length_eq_zero h.2⟩
  | [], k + 1, c => by
    show c ∈ ([] : List (List Int)) ↔ _
    constructor
    · intro h; cases h
    · rintro ⟨h1, h2⟩
      rw [List.sublist_nil.mp h1] at h2; cases h2
  | v :: r, k + 1, c => by
    show c ∈ (chs r k).map (fun t => v :: t) ++ chs r (k + 1) ↔ _
    rw [List.mem_append, List.mem_map, chs_mem (k := k + 1)]
    constructor
    · rintro (⟨t, ht, rfl⟩ | ⟨h1, h2⟩)
      · obtain ⟨h1, h2⟩ := chs_mem.mp ht
        exact ⟨h1.cons₂ v, by rw [List.length_cons, h2]⟩
      · exact ⟨h1.cons v, h2⟩
    · rintro ⟨h1, h2⟩
      cases h1 with
      | cons _ h => exact .inr ⟨h, h2⟩
      | cons_cons _ h => exact .inl ⟨_, chs_mem.mpr ⟨h, by simpa using h2⟩, rfl⟩
/-- the order of lists -/
def lexL : List Int → List Int → Prop
  | x :: r, y :: t => x < y ∨ (x = y ∧ lexL r t)
  | _, _ => False
theorem lex_asym : ∀ {a b : List Int}, lexL a b → ¬ lexL b a
  | [], _, h => h.elim
  | _ :: _, [], h => h.elim
  | x :: r, y :: t, h => by
    intro g
    rcases h with h | ⟨h, h'⟩ <;> rcases g with g | ⟨g, g'⟩
    · omega
    · omega
    · omega
    · exact lex_asym h' g'
theorem lex_app : ∀ {a b x y : List Int}, a.length = b.length → lexL a b → lexL (a ++ x) (b ++ y)
  | [], _, _, _, _, h => h.elim
  | _ :: _, [], _, _, _, h => h.elim
  | p :: r, q :: t, x, y, hl, h => by
    rcases h with h | ⟨h, h'⟩
    · exact .inl h
    · exact .inr ⟨h, lex_app (by simpa using hl) h'⟩
theorem lex_same : ∀ (a : List Int) {x y : List Int}, lexL x y → lexL (a ++ x) (a ++ y)
  | [], _, _, h => h
  | _ :: r, _, _, h => .inr ⟨rfl, lex_same r h⟩
theorem chs_lex : ∀ {vs : List Int} {k : Nat}, vs.Pairwise (· < ·) → (chs vs k).Pairwise lexL
  | vs, 0, _ => by rw [chs_zero]; exact List.pairwise_singleton _ _
  | [], k + 1, _ => List.Pairwise.nil
  | v :: r, k + 1, h => by
    obtain ⟨h1, h2⟩ := List.pairwise_cons.mp h
    show ((chs r k).map (fun t => v :: t) ++ chs r (k + 1)).Pairwise lexL
    rw [List.pairwise_append]
    refine ⟨?_, chs_lex h2, fun a ha b hb => ?_⟩
    · rw [List.pairwise_map]
      exact (chs_lex h2).imp fun h => .inr ⟨rfl, h⟩
    · obtain ⟨t, _, rfl⟩ := List.mem_map.mp ha
      obtain ⟨g1, g2⟩ := chs_mem.mp hb
      match b, g2 with
      | y :: u, _ => exact .inl (h1 y (g1.subset List.mem_cons_self))
theorem sorted_eq : ∀ {A B : List (List Int)}, A.Pairwise lexL → B.Pairwise lexL → (∀ x, x ∈ A ↔ x ∈ B) → A = B
  | [], [], _, _, _ => rfl
  | [], b :: B, _, _, h => by have := (h b).mpr List.mem_cons_self; cases this
  | a :: A, [], _, _, h => by have := (h a).mp List.mem_cons_self; cases this
  | a :: A, b :: B, hA, hB, h => by
    obtain ⟨a1, a2⟩ := List.pairwise_cons.mp hA
    obtain ⟨b1, b2⟩ := List.pairwise_cons.mp hB
    have e : a = b := by
      rcases List.mem_cons.mp ((h a).mp List.mem_cons_self) with g | g
      · exact g
      · rcases List.mem_cons.mp ((h b).mpr List.mem_cons_self) with q | q
        · exact q.symm
        · exact absurd (a1 b q) (lex_asym (b1 a g))
    subst e
    have irr : ∀ {x : List Int}, ¬ lexL x x := fun g => lex_asym g g
    rw [sorted_eq a2 b2 fun x => ?_]
    constructor
    · intro hx
      rcases List.mem_cons.mp ((h x).mp (List.mem_cons_of_mem _ hx)) with g | g
      · rw [g] at hx; exact absurd (a1 a hx) irr
      · exact g
    · intro hx
      rcases List.mem_cons.mp ((h x).mpr (List.mem_cons_of_mem _ hx)) with g | g
      · rw [g] at hx; exact absurd (b1 a hx) irr
      · exact g
/-! rows block by block -/
def rest (vs c : List Int) : List Int := vs.filter fun v => !decide (v ∈ c)
def enu : List Nat → List Int → List (List Int)
  | [], _ => [[]]
  | k :: ks, vs => (chs vs k).flatMap fun c => (enu ks (rest vs c)).map fun t => c ++ t
def mulM : List Nat → Nat → Nat
  | [], _ => 1
  | k :: ks, m => Xk.cmb m k * mulM ks (m - k)
theorem rest_sub (vs c : List Int) : (rest vs c).Sublist vs := List.filter_sublist
theorem rest_up {vs c : List Int} (h : vs.Pairwise (· < ·)) : (rest vs c).Pairwise (· < ·) := h.sublist (rest_sub vs c)
theorem up_nodup {vs : List Int} (h : vs.Pairwise (· < ·)) : vs.Nodup := h.imp fun g => by omega
theorem rest_perm {vs c : List Int} (h : vs.Pairwise (· < ·)) (hc : c.Sublist vs) : (c ++ rest vs c).Perm vs := by
  have e1 : vs.filter (fun v => decide (v ∈ c)) = c := by
    have hp : (vs.filter fun v => decide (v ∈ c)).Pairwise (· ≤ ·) := (h.sublist List.filter_sublist).imp fun g => by omega
    have hq : c.Pairwise (· ≤ ·) := (h.sublist hc).imp fun g => by omega
    refine up_unique ?_ hp hq
    refine (List.perm_ext_iff_of_nodup (up_nodup (h.sublist List.filter_sublist)) (up_nodup (h.sublist hc))).mpr fun x => ?_
    rw [List.mem_filter, decide_eq_true_eq]
    exact ⟨fun g => g.2, fun g => ⟨hc.subset g, g⟩⟩
  have := List.filter_append_perm (fun v => decide (v ∈ c)) vs
  rw [e1] at this
  exact this
theorem rest_len {vs c : List Int} (h : vs.Pairwise (· < ·)) (hc : c.Sublist vs) : (rest vs c).length = vs.length - c.length := by
  have := (rest_perm h hc).length_eq
  rw [List.length_append] at this
  omega
theorem flat_len {α β : Type} {f : α → List β} {q : Nat} : ∀ {A : List α}, (∀ a ∈ A, (f a).length = q) → (A.flatMap f).length = A.length * q
  | [], _ => by simp
  | a :: A, h => by
    rw [List.flatMap_cons, List.length_append, h a List.mem_cons_self, flat_len fun b hb => h b (List.mem_cons_of_mem _ hb), List.length_cons, Nat.succ_mul]; omega
theorem flat_at {α β : Type} {f : α → List β} {q : Nat} (hq : 0 < q) : ∀ {A : List α}, (∀ a ∈ A, (f a).length = q) → ∀ i, (A.flatMap f)[i]? = (A[i / q]?).bind fun a => (f a)[i % q]?
  | [], _, i => by simp
  | a :: A, h, i => by
    have h0 := h a List.mem_cons_self
    rw [List.flatMap_cons]
    by_cases g : i < q
    · rw [List.getElem?_append_left (by omega), Nat.div_eq_of_lt g, Nat.mod_eq_of_lt g]; rfl
    · rw [List.getElem?_append_right (by omega), h0, flat_at hq (fun b hb => h b (List.mem_cons_of_mem _ hb)) (i - q)]
      have e1 : i / q = (i - q) / q + 1 := by
        rw [Nat.div_eq_sub_div hq (by omega)]
      have e2 : (i - q) % q = i % q := by rw [Nat.mod_eq_sub_mod (a := i) (by omega)]
      rw [e1, e2]; rfl
theorem enu_len : ∀ (ks : List Nat) {vs : List Int}, vs.Pairwise (· < ·) → (enu ks vs).length = mulM ks vs.length
  | [], _, _ => rfl
  | k :: ks, vs, h => by
    show ((chs vs k).flatMap _).length = _
    rw [flat_len (q := mulM ks (vs.length - k)) fun c hc => ?_, chs_len]
    · rfl
    · obtain ⟨h1, h2⟩ := chs_mem.mp hc
      rw [List.length_map, enu_len ks (rest_up h), rest_len h h1, h2]
/-- rows that rise by lengths -/
def Rise : List Nat → List Int → Prop
  | [], l => l = []
  | k :: ks, l => (l.take k).Pairwise (· ≤ ·) ∧ Rise ks (l.drop k)
theorem enu_mem : ∀ (ks : List Nat) {vs l : List Int}, vs.Pairwise (· < ·) → ks.sum = vs.length → (l ∈ enu ks vs ↔ l.Perm vs ∧ Rise ks l)
  | [], vs, l, h, hs => by
    have hv : vs = [] := List.eq_nil_of_length_eq_zero hs.symm
    subst hv
    show l ∈ [[]] ↔ _
    rw [List.mem_singleton]
    exact ⟨fun e => by rw [e]; exact ⟨List.Perm.refl _, rfl⟩, fun g => g.2⟩
  | k :: ks, vs, l, h, hs => by
    rw [List.sum_cons] at hs
    show l ∈ (chs vs k).flatMap _ ↔ _
    rw [List.mem_flatMap]
    constructor
    · rintro ⟨c, hc, hl⟩
      obtain ⟨t, ht, rfl⟩ := List.mem_map.mp hl
      obtain ⟨h1, h2⟩ := chs_mem.mp hc
      obtain ⟨g1, g2⟩ := (enu_mem ks (rest_up h) (by rw [rest_len h h1, h2]; omega)).mp ht
      refine ⟨(g1.append_left c).trans (rest_perm h h1), ?_, ?_⟩
      · rw [← h2, List.take_left]
        exact (h.sublist h1).imp fun g => by omega
      · rw [← h2, List.drop_left]; exact g2
    · rintro ⟨g1, g2, g3⟩
      have hn : l.Nodup := g1.nodup_iff.mpr (up_nodup h)
      have hll := g1.length_eq
      have hlt : (l.take k).Pairwise (· < ·) := by
        have hn' : (l.take k).Nodup := hn.sublist (List.take_sublist _ _)
        exact (g2.and hn').imp fun g => by have := g.1; have := g.2; omega
      have hsub : (l.take k).Sublist vs := by
        have hp : (l.take k).Perm (vs.filter fun v => decide (v ∈ l.take k)) := by
          refine (List.perm_ext_iff_of_nodup (up_nodup hlt) (up_nodup (h.sublist List.filter_sublist))).mpr fun x => ?_
          rw [List.mem_filter, decide_eq_true_eq]
          exact ⟨fun q => ⟨g1.mem_iff.mp (List.mem_of_mem_take q), q⟩, fun q => q.2⟩
        rw [up_unique hp g2 ((h.sublist List.filter_sublist).imp fun g => by omega)]
        exact List.filter_sublist
      have hck : (l.take k).length = k := by rw [List.length_take]; omega
      refine ⟨l.take k, chs_mem.mpr ⟨hsub, hck⟩, List.mem_map.mpr ⟨l.drop k, ?_, List.take_append_drop k l⟩⟩
      refine (enu_mem ks (rest_up h) (by rw [rest_len h hsub, hck]; omega)).mpr ⟨?_, g3⟩
      have e1 := rest_perm h hsub
      have e2 : (l.take k ++ l.drop k).Perm (l.take k ++ rest vs (l.take k)) := by
        rw [List.take_append_drop]; exact g1.trans e1.symm
      exact (List.perm_append_left_iff _).mp e2
theorem enu_lex : ∀ (ks : List Nat) {vs : List Int}, vs.Pairwise (· < ·) → (enu ks vs).Pairwise lexL
  | [], _, _ => List.pairwise_singleton _ _
  | k :: ks, vs, h => by
    show ((chs vs k).flatMap _).Pairwise lexL
    rw [List.flatMap, List.pairwise_flatten]
    refine ⟨fun L hL => ?_, ?_⟩
    · obtain ⟨c, hc, rfl⟩ := List.mem_map.mp hL
      rw [List.pairwise_map]
      exact (enu_lex ks (rest_up h)).imp fun g => lex_same c g
    · rw [List.pairwise_map]
      have hm : ∀ a ∈ chs vs k, ∀ b ∈ chs vs k, lexL a b → ∀ x ∈ (enu ks (rest vs a)).map (fun t => a ++ t), ∀ y ∈ (enu ks (rest vs b)).map (fun t => b ++ t), lexL x y := fun a ha b hb g x hx y hy => by
        obtain ⟨t, _, rfl⟩ := List.mem_map.mp hx
        obtain ⟨u, _, rfl⟩ := List.mem_map.mp hy
        exact lex_app (by rw [(chs_mem.mp ha).2, (chs_mem.mp hb).2]) g
      exact List.Pairwise.imp_of_mem (fun ha hb g => hm _ ha _ hb g) (chs_lex h)
theorem tile_rise : ∀ {bs : List Cmd} {s e : Nat} {l : List Int}, Tile s bs e → 1 ≤ s → l.length + 1 = e → (Rise (bs.map fun c => c.2 - c.1 + 1) (l.drop (s - 1)) ↔ RiseB bs l)
  | [], s, e, l, h, h1, h2 => by
    have : s = e := h
    show l.drop (s - 1) = [] ↔ _
    rw [List.drop_of_length_le (by omega)]
    exact ⟨(fun _ c hc => by cases hc), fun _ => rfl⟩
  | c :: r, s, e, l, h, h1, h2 => by
    have hc1 := h.1
    have hc2 := h.2.1
    have ih := tile_rise h.2.2 (by omega) h2
    have hle := (tile_le h.2.2).1
    show ((l.drop (s - 1)).take (c.2 - c.1 + 1)).Pairwise (· ≤ ·) ∧ Rise (r.map fun c => c.2 - c.1 + 1) ((l.drop (s - 1)).drop (c.2 - c.1 + 1)) ↔ _
    rw [List.drop_drop, show s - 1 + (c.2 - c.1 + 1) = c.2 + 1 - 1 by omega, ih]
    have e1 : c.2 - c.1 + 1 = c.2 - (c.1 - 1) := by omega
    rw [e1, ← hc1, str_adj (by omega) (by omega)]
    constructor
    · rintro ⟨g1, g2⟩ d hd
      rcases List.mem_cons.mp hd with q | q
      · rw [q]; exact g1
      · exact g2 d q
    · intro g
      exact ⟨g c List.mem_cons_self, fun d hd => g d (List.mem_cons_of_mem _ hd)⟩
theorem tile_sum : ∀ {bs : List Cmd} {s e : Nat}, Tile s bs e → (bs.map fun c => c.2 - c.1 + 1).sum + s = e
  | [], s, e, h => by have : s = e := h; simp [this]
  | c :: r, s, e, h => by
    have := tile_sum h.2.2
    have h1 := h.1
    have h2 := h.2.1
    rw [List.map_cons, List.sum_cons]
    omega
/-- the lengths of a script's blocks -/
def lenM (n : Nat) (cs : List Cmd) : List Nat := (blkM n cs).map fun c => c.2 - c.1 + 1
theorem lenM_sum {n : Nat} {cs : List Cmd} (hf : Fits n cs) (hn : 1 ≤ n) : (lenM n cs).sum = n := by
  have := tile_sum (blkM_ok hf hn).1
  unfold lenM; omega
theorem asc_lt (n : Nat) : (ascN n).Pairwise (· < ·) := by
  unfold ascN
  rw [List.pairwise_map]
  exact List.pairwise_lt_range.imp fun h => by omega
/-- the rows that a script does not change, in the order of lists -/
theorem enu_fix {n : Nat} {cs : List Cmd} {l : List Int} (hf : Fits n cs) (hn : 1 ≤ n) : l ∈ enu (lenM n cs) (ascN n) ↔ l.Perm (ascN n) ∧ runM l cs = l := by
  rw [enu_mem (lenM n cs) (asc_lt n) (by rw [lenM_sum hf hn, ascN_length'])]
  constructor
  · rintro ⟨h1, h2⟩
    have hl := perm_len h1
    refine ⟨h1, (fix_rise hf hn hl).mpr ?_⟩
    have := (tile_rise (l := l) (blkM_ok hf hn).1 (Nat.le_refl 1) (by omega)).mp
    exact this h2
  · rintro ⟨h1, h2⟩
    have hl := perm_len h1
    refine ⟨h1, ?_⟩
    have := (tile_rise (l := l) (blkM_ok hf hn).1 (Nat.le_refl 1) (by omega)).mpr ((fix_rise hf hn hl).mp h2)
    exact this
/-! the number of a row -/
def chIx : List Int → List Int → Nat
  | v :: r, x :: t => if v = x then chIx r t else Xk.cmb r.length t.length + chIx r (x :: t)
  | _, _ => 0
theorem ch_at : ∀ {vs c : List Int}, vs.Pairwise (· < ·) → c.Sublist vs → (chs vs c.length)[chIx vs c]? = some c
  | vs, [], _, _ => by
    have : chIx vs [] = 0 := by cases vs <;> rfl
    rw [this]; show (chs vs 0)[0]? = _; rw [chs_zero]; rfl
  | [], x :: t, _, h => by have := List.sublist_nil.mp h; cases this
  | v :: r, x :: t, h, hc => by
    obtain ⟨h1, h2⟩ := List.pairwise_cons.mp h
    show ((chs r t.length).map (fun u => v :: u) ++ chs r (t.length + 1))[chIx (v :: r) (x :: t)]? = _
    by_cases e : v = x
    · subst e
      have hs : t.Sublist r := by
        cases hc with
        | cons _ g => exact absurd (h1 v (g.subset List.mem_cons_self)) (by omega)
        | cons_cons _ g => exact g
      have ih := ch_at h2 hs
      have hlt := (List.getElem?_eq_some_iff.mp ih).1
      rw [show chIx (v :: r) (v :: t) = chIx r t from if_pos rfl, List.getElem?_append_left (by rw [List.length_map]; exact hlt), List.getElem?_map, ih]; rfl
    · have hs : (x :: t).Sublist r := by
        cases hc with
        | cons _ g => exact g
        | cons_cons _ g => exact absurd rfl e
      have ih := ch_at h2 hs
      rw [show chIx (v :: r) (x :: t) = Xk.cmb r.length t.length + chIx r (x :: t) from if_neg e, List.getElem?_append_right (by rw [List.length_map, chs_len]; omega), List.length_map, chs_len,
        show Xk.cmb r.length t.length + chIx r (x :: t) - Xk.cmb r.length t.length = chIx r (x :: t) by omega]
      exact ih
def eIx : List Nat → List Int → List Int → Nat
  | [], _, _ => 0
  | k :: ks, vs, l => chIx vs (l.take k) * mulM ks (vs.length - k) + eIx ks (rest vs (l.take k)) (l.drop k)
theorem cmb_pos : ∀ {n k : Nat}, k ≤ n → 0 < Xk.cmb n k
  | n, 0, _ => by rw [Xk.cmb_zero]; exact Nat.one_pos
  | n + 1, k + 1, h => by
    show 0 < Xk.cmb n k + Xk.cmb n (k + 1)
    have := cmb_pos (n := n) (k := k) (by omega)
    omega
theorem mul_pos' : ∀ (ks : List Nat) {m : Nat}, ks.sum = m → 0 < mulM ks m
  | [], _, _ => Nat.one_pos
  | k :: ks, m, h => by
    rw [List.sum_cons] at h
    exact Nat.mul_pos (cmb_pos (by omega)) (mul_pos' ks (by omega))
theorem enu_at : ∀ (ks : List Nat) {vs l : List Int}, vs.Pairwise (· < ·) → ks.sum = vs.length → l.Perm vs → Rise ks l → (enu ks vs)[eIx ks vs l]? = some l ∧ eIx ks vs l < mulM ks vs.length
  | [], vs, l, h, hs, hp, hr => by
    have : l = [] := hr
    subst this
    exact ⟨rfl, Nat.one_pos⟩
  | k :: ks, vs, l, h, hs, hp, hr => by
    have hmem := (enu_mem (k :: ks) h hs).mpr ⟨hp, hr⟩
    rw [List.sum_cons] at hs
    have hll := hp.length_eq
    have hck : (l.take k).length = k := by rw [List.length_take]; omega
    obtain ⟨c, hc, hl⟩ := List.mem_flatMap.mp hmem
    obtain ⟨t, ht, e⟩ := List.mem_map.mp hl
    obtain ⟨h1, h2⟩ := chs_mem.mp hc
    have ec : l.take k = c := by rw [← e, ← h2, List.take_left]
    have et : l.drop k = t := by rw [← e, ← h2, List.drop_left]
    rw [← ec] at h1 ht
    rw [← et] at ht
    have hrl : (rest vs (l.take k)).length = vs.length - k := by rw [rest_len h h1, hck]
    obtain ⟨p1, p2⟩ := (enu_mem ks (rest_up h) (by rw [hrl]; omega)).mp ht
    obtain ⟨i1, i2⟩ := enu_at ks (rest_up h) (by rw [hrl]; omega) p1 p2
    rw [hrl] at i2
    have hq : 0 < mulM ks (vs.length - k) := mul_pos' ks (by omega)
    have a1 := ch_at h h1
    rw [hck] at a1
    have a2 := (List.getElem?_eq_some_iff.mp a1).1
    rw [chs_len] at a2
    have hdiv : (chIx vs (l.take k) * mulM ks (vs.length - k) + eIx ks (rest vs (l.take k)) (l.drop k)) / mulM ks (vs.length - k) = chIx vs (l.take k) := by
      rw [Nat.mul_comm, Nat.mul_add_div hq, Nat.div_eq_of_lt i2, Nat.add_zero]
    have hmod : (chIx vs (l.take k) * mulM ks (vs.length - k) + eIx ks (rest vs (l.take k)) (l.drop k)) % mulM ks (vs.length - k) = eIx ks (rest vs (l.take k)) (l.drop k) := by
      rw [Nat.mul_comm, Nat.mul_add_mod, Nat.mod_eq_of_lt i2]
    constructor
    · show ((chs vs k).flatMap fun c => (enu ks (rest vs c)).map fun t => c ++ t)[chIx vs (l.take k) * mulM ks (vs.length - k) + eIx ks (rest vs (l.take k)) (l.drop k)]? = _
      rw [flat_at hq (fun c hc => by
        obtain ⟨g1, g2⟩ := chs_mem.mp hc
        rw [List.length_map, enu_len ks (rest_up h), rest_len h g1, g2]), hdiv, hmod, a1]
      show ((enu ks (rest vs (l.take k))).map fun t => l.take k ++ t)[_]? = _
      rw [List.getElem?_map, i1]
      show some (l.take k ++ l.drop k) = _
      rw [List.take_append_drop]
    · show chIx vs (l.take k) * mulM ks (vs.length - k) + eIx ks (rest vs (l.take k)) (l.drop k) < Xk.cmb vs.length k * mulM ks (vs.length - k)
      have := Nat.mul_le_mul_right (mulM ks (vs.length - k)) (show chIx vs (l.take k) + 1 ≤ Xk.cmb vs.length k by omega)
      rw [Nat.succ_mul] at this
      omega
/-- no row stands twice -/
theorem lex_nodup {A : List (List Int)} (h : A.Pairwise lexL) : A.Nodup := h.imp fun g e => by subst e; exact lex_asym g g
theorem nodup_ix {α : Type} {A : List α} (h : A.Nodup) {i j : Nat} {x : α} (e : A[i]? = some x) (g : A[j]? = some x) : i = j := by
  obtain ⟨h1, e1⟩ := List.getElem?_eq_some_iff.mp e
  obtain ⟨h2, e2⟩ := List.getElem?_eq_some_iff.mp g
  have hp := List.pairwise_iff_getElem.mp (show A.Pairwise (· ≠ ·) from h)
  rcases Nat.lt_trichotomy i j with q | q | q
  · exact absurd (e1.trans e2.symm) (hp i j h1 h2 q)
  · exact q
  · exact absurd (e2.trans e1.symm) (hp j i h2 h1 q)
end My
namespace My
/-- commands as rows of two -/
def rowsC (cs : List Cmd) : List (List Int) := cs.map fun c => [((c.1 : Nat) : Int), ((c.2 : Nat) : Int)]
theorem rowsC_app (a b : List Cmd) : rowsC (a ++ b) = rowsC a ++ rowsC b := List.map_append
/-- the blocks up to place p + 1 -/
def blkP (cs : List Cmd) (p : Nat) : List Cmd := (blkU cs p).1 ++ [((blkU cs p).2, p + 1)]
theorem blkP_yes {cs : List Cmd} {p : Nat} (h : lnk cs (p + 1) = true) : blkP cs (p + 1) = (blkU cs p).1 ++ [((blkU cs p).2, p + 2)] := by
  have e : blkU cs (p + 1) = blkU cs p := by show (if lnk cs (p + 1) then _ else _) = _; rw [if_pos h]
  unfold blkP; rw [e]
theorem blkP_no {cs : List Cmd} {p : Nat} (h : ¬ lnk cs (p + 1) = true) : blkP cs (p + 1) = blkP cs p ++ [(p + 2, p + 2)] := by
  have e : blkU cs (p + 1) = ((blkU cs p).1 ++ [((blkU cs p).2, p + 1)], p + 2) := by show (if lnk cs (p + 1) then _ else _) = _; rw [if_neg h]
  unfold blkP; rw [e]
theorem blkP_end {cs : List Cmd} {p : Nat} (h : Fits (p + 1) cs) : blkP cs p = blkM (p + 1) cs := by
  have hl : ¬ lnk cs (p + 1) = true := by
    unfold lnk
    rw [List.any_eq_true]
    rintro ⟨c, hc, e⟩
    have := (h c hc).2.2
    simp at e
    omega
  unfold blkM blkP
  show _ = (if lnk cs (p + 1) then blkU cs p else ((blkU cs p).1 ++ [((blkU cs p).2, p + 1)], p + 2)).1
  rw [if_neg hl]
theorem blkP_len (cs : List Cmd) : ∀ p, (blkP cs p).length ≤ p + 1
  | 0 => by show 1 ≤ 1; omega
  | p + 1 => by
    by_cases h : lnk cs (p + 1) = true
    · have := blkP_len cs p
      rw [blkP_yes h]
      unfold blkP at this
      rw [List.length_append] at this ⊢
      simp only [List.length_singleton] at this ⊢
      omega
    · have := blkP_len cs p
      rw [blkP_no h, List.length_append]
      simp only [List.length_singleton]
      omega
/-- the hits of a place among the first j commands -/
def hitU (cs : List Cmd) (p j : Nat) : List Cmd := (cs.take j).filter fun c => decide (c.1 ≤ p) && decide (p < c.2)
theorem hit_nil (cs : List Cmd) (p : Nat) : hitU cs p cs.length = [] ↔ ¬ lnk cs p = true := by
  unfold hitU lnk
  rw [List.take_of_length_le (Nat.le_refl _), List.filter_eq_nil_iff, List.any_eq_true]
  constructor
  · rintro h ⟨c, hc, e⟩; exact h c hc e
  · intro h c hc e; exact h ⟨c, hc, e⟩
theorem hit_succ {cs : List Cmd} {p j : Nat} (hj : j < cs.length) : hitU cs p (j + 1) = hitU cs p j ++ if (decide (cs[j].1 ≤ p) && decide (p < cs[j].2)) = true then [cs[j]] else [] := by
  unfold hitU
  rw [List.take_add_one, List.getElem?_eq_getElem hj, List.filter_append]
  show _ ++ List.filter _ [cs[j]] = _
  by_cases g : (decide (cs[j].1 ≤ p) && decide (p < cs[j].2)) = true
  · rw [if_pos g, List.filter_cons_of_pos (p := fun c : Cmd => decide (c.1 ≤ p) && decide (p < c.2)) g]; rfl
  · rw [if_neg g, List.filter_cons_of_neg (p := fun c : Cmd => decide (c.1 ≤ p) && decide (p < c.2)) g]; rfl
theorem hit_len (cs : List Cmd) (p j : Nat) : (hitU cs p j).length ≤ j := by
  unfold hitU
  exact Nat.le_trans (List.length_filter_le _ _) (by rw [List.length_take]; omega)
end My
namespace My
/-! ### the stable effect -/
theorem zc_stay {l : List Int} {c : Cmd} {p : Nat} (h1 : 1 ≤ c.1) (h2 : c.1 ≤ c.2) (h3 : c.2 ≤ l.length) (t : Int) (g : ¬ (c.1 ≤ p ∧ p < c.2)) : zc (step l c) t p = zc l t p := by
  show zc (seg l c.1 c.2) t p = _
  rw [zc_seg h1 h2 h3]
  by_cases q : p < c.1 ∨ c.2 < p
  · rw [if_pos q]
  · rw [if_neg q]
    obtain rfl : p = c.2 := by omega
    have := (zc_mono (l := l) (t := t) (p := c.1 - 1) (c.2 - (c.1 - 1))).2
    rw [show c.1 - 1 + (c.2 - (c.1 - 1)) = c.2 by omega] at this
    omega
theorem zc_off {p : Nat} (t : Int) : ∀ (cs : List Cmd) (l : List Int), Fits l.length cs → (∀ c ∈ cs, ¬ (c.1 ≤ p ∧ p < c.2)) → zc (runM l cs) t p = zc l t p
  | [], l, _, _ => rfl
  | c :: r, l, hf, h => by
    have hc := hf c List.mem_cons_self
    have e : (step l c).length = l.length := seg_len hc.2.1 hc.2.2
    show zc (runM (step l c) r) t p = _
    rw [zc_off t r (step l c) (by rw [e]; exact fun d hd => hf d (List.mem_cons_of_mem _ hd)) fun d hd => h d (List.mem_cons_of_mem _ hd)]
    exact zc_stay hc.1 hc.2.1 hc.2.2 t (h c List.mem_cons_self)
theorem tile_fits {bs : List Cmd} {s e n : Nat} (h : Tile s bs e) (hs : 1 ≤ s) (he : e ≤ n + 1) : Fits n bs := fun c hc => by
  have := (tile_le h).2 c hc
  exact ⟨by omega, by omega, by omega⟩
theorem tile_zc (t : Int) : ∀ {bs : List Cmd} {s e : Nat} {l : List Int}, Tile s bs e → 1 ≤ s → e ≤ l.length + 1 →
    ∀ c ∈ bs, ∀ p, c.1 ≤ p → p < c.2 → zc (runM l bs) t p = min (zc l t (c.1 - 1) + (p - (c.1 - 1))) (zc l t c.2)
  | [], _, _, _, _, _, _, c, hc, _, _, _ => by cases hc
  | d :: r, s, e, l, h, hs, he, c, hc, p, h1, h2 => by
    have hle := tile_le h.2.2
    have hd1 : 1 ≤ d.1 := by have := h.1; omega
    have hd2 : d.1 ≤ d.2 := by have := h.1; have := h.2.1; omega
    have hd3 : d.2 ≤ l.length := by have := hle.1; omega
    have el : (step l d).length = l.length := seg_len hd2 hd3
    show zc (runM (step l d) r) t p = _
    rcases List.mem_cons.mp hc with g | g
    · subst g
      rw [zc_off t r (step l c) (by rw [el]; exact tile_fits h.2.2 (by omega) (by omega)) fun b hb => by have := hle.2 b hb; omega]
      show zc (seg l c.1 c.2) t p = _
      rw [zc_seg hd1 hd2 hd3, if_neg (by omega)]
    · have hb := hle.2 c g
      rw [tile_zc t h.2.2 (by omega) (by rw [el]; exact he) c g p h1 h2, zc_stay hd1 hd2 hd3 t (by omega), zc_stay hd1 hd2 hd3 t (by omega)]
theorem blk_off {n : Nat} {cs : List Cmd} (hf : Fits n cs) (hn : 1 ≤ n) {p : Nat} (h : lnk cs p = false) : ∀ c ∈ blkM n cs, ¬ (c.1 ≤ p ∧ p < c.2) := fun c hc g => by
  have := ((blkM_ok hf hn).2 c hc).2 p g.1 g.2
  rw [h] at this; cases this
theorem lnk_off {cs : List Cmd} {p : Nat} (h : lnk cs p = false) : ∀ c ∈ cs, ¬ (c.1 ≤ p ∧ p < c.2) := fun c hc g => by
  have := lnk_iff.mpr ⟨c, hc, g.1, g.2⟩
  rw [h] at this; cases this
/-! ### how many rows are unchanged: by factorials -/
def wholeM (w : Nat) (ks : List Nat) : Nat := ks.foldl (fun w k => w / Xk.fac k) w
theorem whole_mul : ∀ (ks : List Nat) (m c : Nat), ks.sum = m → wholeM (c * Xk.fac m) ks = c * mulM ks m
  | [], m, c, h => by have : m = 0 := h.symm; subst this; rfl
  | k :: ks, m, c, h => by
    have hk : k + ks.sum = m := by rw [← h, List.sum_cons]
    have e : Xk.cmb m k * (Xk.fac k * Xk.fac (m - k)) = Xk.fac m := by
      have := Xk.cmb_fac (m - k) k
      rw [show m - k + k = m by omega] at this
      exact this
    show wholeM (c * Xk.fac m / Xk.fac k) ks = c * (Xk.cmb m k * mulM ks (m - k))
    have : c * Xk.fac m / Xk.fac k = c * Xk.cmb m k * Xk.fac (m - k) := by
      rw [← e, show c * (Xk.cmb m k * (Xk.fac k * Xk.fac (m - k))) = Xk.fac k * (c * Xk.cmb m k * Xk.fac (m - k)) by simp only [Nat.mul_assoc, Nat.mul_left_comm, Nat.mul_comm], Nat.mul_div_cancel_left _ (Xk.fac_pos k)]
    rw [this, whole_mul ks (m - k) _ (by omega), Nat.mul_assoc]
/-! ### two stretches by turns -/
def tcmd (x m y t : Nat) : Cmd := if t % 2 = 0 then (1, x + m) else (x + 1, x + m + y)
def altC (x m y : Nat) : Nat → List Cmd
  | 0 => []
  | t + 1 => altC x m y t ++ [tcmd x m y t]
def rowT (x m y t : Nat) : List Int := runM (desc (x + m + y)) (altC x m y t)
theorem rowT_succ (x m y t : Nat) : rowT x m y (t + 1) = step (rowT x m y t) (tcmd x m y t) := runM_snoc _ _ _
theorem tcmd_ok {x m y : Nat} (hm : 1 ≤ m) (t : Nat) : 1 ≤ (tcmd x m y t).1 ∧ (tcmd x m y t).1 ≤ (tcmd x m y t).2 ∧ (tcmd x m y t).2 ≤ x + m + y := by
  unfold tcmd
  split
  · exact ⟨Nat.le_refl _, by show 1 ≤ x + m; omega, by show x + m ≤ _; omega⟩
  · exact ⟨by show 1 ≤ x + 1; omega, by show x + 1 ≤ x + m + y; omega, Nat.le_refl _⟩
theorem altC_fits {x m y : Nat} (hm : 1 ≤ m) : ∀ t, Fits (x + m + y) (altC x m y t)
  | 0 => fun c hc => by cases hc
  | t + 1 => fun c hc => by
    rcases List.mem_append.mp hc with e | e
    · exact altC_fits hm t c e
    · rw [List.mem_singleton.mp e]; exact tcmd_ok hm t
theorem rowT_perm {x m y : Nat} (hm : 1 ≤ m) (t : Nat) : (rowT x m y t).Perm (ascN (x + m + y)) :=
  (runM_perm _ _ (by rw [desc_len]; exact altC_fits hm t)).trans (desc_perm _)
theorem rowT_len {x m y : Nat} (hm : 1 ≤ m) (t : Nat) : (rowT x m y t).length = x + m + y := by rw [(rowT_perm hm t).length_eq]; simp [ascN]
/-- the counts at the two places that matter, for the threshold n - q -/
def abT (x m y q : Nat) : Nat → Nat × Nat
  | 0 => (x - q, x + m - q)
  | t + 1 => if t % 2 = 0 then (min x (abT x m y q t).2, (abT x m y q t).2) else ((abT x m y q t).1, min ((abT x m y q t).1 + m) (x + m + y - q))
def fullT (x m y q : Nat) (t p : Nat) : Nat := zc (rowT x m y t) (((x + m + y : Nat) : Int) - q) p
theorem full_end {x m y q : Nat} (hm : 1 ≤ m) (hq : q ≤ x + m + y) (t : Nat) : fullT x m y q t (x + m + y) = x + m + y - q := by
  unfold fullT
  rw [zc_all (by rw [rowT_len hm]; exact Nat.le_refl _), ((rowT_perm hm t).trans (desc_perm _).symm).countP_eq _]
  have := zc_desc (n := x + m + y) q hq (x + m + y) (Nat.le_refl _)
  rw [zc_all (by rw [desc_len]; exact Nat.le_refl _)] at this
  exact this
theorem full_succ {x m y q : Nat} (hm : 1 ≤ m) (hq : q ≤ x + m + y) (t p : Nat) : fullT x m y q (t + 1) p = if t % 2 = 0 then (if p ≤ x + m then min p (fullT x m y q t (x + m)) else fullT x m y q t p) else (if p ≤ x then fullT x m y q t p else if p ≤ x + m + y then min (fullT x m y q t x + (p - x)) (x + m + y - q) else fullT x m y q t p) := by
  have he := full_end hm hq t
  unfold fullT at he ⊢
  rw [rowT_succ]
  have hl := rowT_len (x := x) (y := y) hm t
  unfold tcmd
  by_cases e : t % 2 = 0
  · rw [if_pos e, if_pos e]
    show zc (seg _ 1 (x + m)) _ _ = _
    rw [zc_seg (Nat.le_refl _) (by omega) (by omega)]
    have z0 : ∀ (b : List Int) (t : Int), zc b t 0 = 0 := fun b t => by simp [zc]
    by_cases g : p ≤ x + m
    · rw [if_pos g]
      by_cases h0 : p = 0
      · subst h0; rw [if_pos (by omega), z0]; simp
      · rw [if_neg (by omega), z0]; congr 1; omega
    · rw [if_neg g, if_pos (by omega)]
  · rw [if_neg e, if_neg e]
    show zc (seg _ (x + 1) (x + m + y)) _ _ = _
    rw [zc_seg (by omega) (by omega) (by omega)]
    by_cases g : p ≤ x
    · rw [if_pos g, if_pos (by omega)]
    · rw [if_neg g]
      by_cases g2 : p ≤ x + m + y
      · rw [if_pos g2, if_neg (by omega), he, show x + 1 - 1 = x by omega]
      · rw [if_neg g2, if_pos (by omega)]
theorem full_zero {x m y q : Nat} (hq : q ≤ x + m + y) {p : Nat} (hp : p ≤ x + m + y) : fullT x m y q 0 p = p - q := zc_desc q hq p hp
/-- after an odd number of turns: what the left one's own places hold -/
theorem full_odd {x m y q : Nat} (hm : 1 ≤ m) (hq : q ≤ x + m + y) : ∀ j, fullT x m y q (2 * j + 1) x = min x (min (x + m + y - q) (x + m - q + j * m)) ∧ fullT x m y q (2 * j + 2) x = min x (min (x + m + y - q) (x + m - q + j * m)) ∧ fullT x m y q (2 * j + 2) (x + m) = min (fullT x m y q (2 * j + 1) x + m) (x + m + y - q)
  | 0 => by
    have h0 : fullT x m y q 0 (x + m) = x + m - q := full_zero hq (by omega)
    have a1 := full_succ hm hq 0 x
    rw [if_pos rfl, if_pos (by omega), h0] at a1
    have a2 := full_succ hm hq 1 x
    rw [if_neg (by decide), if_pos (Nat.le_refl _)] at a2
    have a3 := full_succ hm hq 1 (x + m)
    rw [if_neg (by decide), if_neg (by omega), if_pos (by omega), show x + m - x = m by omega] at a3
    rw [Nat.zero_mul]
    have a1' : fullT x m y q (2 * 0 + 1) x = min x (x + m - q) := a1
    refine ⟨by omega, ?_, a3⟩
    show fullT x m y q (1 + 1) x = _
    rw [a2]; show fullT x m y q (0 + 1) x = _; omega
  | j + 1 => by
    obtain ⟨h1, h2, h3⟩ := full_odd (x := x) (y := y) hm hq j
    have a1 := full_succ hm hq (2 * j + 2) x
    rw [if_pos (by omega), if_pos (by omega), h3] at a1
    have a2 := full_succ hm hq (2 * j + 3) x
    rw [if_neg (by omega), if_pos (Nat.le_refl _)] at a2
    have a3 := full_succ hm hq (2 * j + 3) (x + m)
    rw [if_neg (by omega), if_neg (by omega), if_pos (by omega), show x + m - x = m by omega] at a3
    rw [show (j + 1) * m = j * m + m from Nat.succ_mul j m]
    generalize j * m = jm at *
    have e1 : fullT x m y q (2 * (j + 1) + 1) x = min x (min (x + m + y - q) (x + m - q + (jm + m))) := by
      show fullT x m y q (2 * j + 2 + 1) x = _
      rw [a1, h1]; omega
    refine ⟨e1, ?_, a3⟩
    show fullT x m y q (2 * j + 3 + 1) x = _
    rw [a2]; exact e1
/-- after an even number of turns, and after an odd one, sorted or not -/
theorem asc_zc {n : Nat} {l : List Int} (hl : l.Perm (ascN n)) (h : ∀ q, q ≤ n → ∀ p, p ≤ n → zc l ((n : Int) - q) p = min p (n - q)) : l = ascN n := by
  have hlen : l.length = n := by rw [hl.length_eq]; simp [ascN]
  have h1 : ∀ v ∈ l, 1 ≤ v ∧ v ≤ n := fun v hv => by
    have := hl.mem_iff.mp hv
    simp [ascN] at this
    omega
  have up := asc_up n
  have cnt : ∀ t : Int, l.countP (fun v => decide (v ≤ t)) = (ascN n).countP (fun v => decide (v ≤ t)) := fun t => hl.countP_eq _
  refine zc_ext (by rw [hl.length_eq]) fun t p hp => ?_
  rw [up_zc t _ p up, ← cnt]
  by_cases g : t < 1
  · rw [zc_low (fun v hv => (h1 v hv).1) g p]
    have := zc_low (fun v hv => (h1 v hv).1) g l.length
    rw [zc_all (Nat.le_refl _)] at this
    omega
  by_cases g2 : (n : Int) < t
  · have e : ∀ p, zc l t p = zc l ((n : Int) - (0 : Nat)) p := fun p => by
      unfold zc
      refine List.countP_congr fun v hv => ?_
      have := h1 v (List.mem_of_mem_take hv)
      simp only [decide_eq_true_eq]; omega
    have e2 := e l.length
    rw [zc_all (Nat.le_refl _), hlen, h 0 (Nat.zero_le _) n (Nat.le_refl _)] at e2
    rw [e, h 0 (Nat.zero_le _) p (by omega), e2]; omega
  · have e : t = (n : Int) - ((n : Int) - t).toNat := by omega
    have e2 := h ((n : Int) - t).toNat (by omega) n (Nat.le_refl _)
    rw [← e] at e2
    have e3 := h ((n : Int) - t).toNat (by omega) p (by omega)
    rw [← e] at e3
    rw [zc_all (l := l) (p := n) (by omega)] at e2
    rw [e3, e2]; omega
theorem zc_asc {n q p : Nat} (hq : q ≤ n) : zc (ascN n) ((n : Int) - q) p = min p (n - q) := by
  rw [up_zc _ _ p (asc_up n)]
  have := zc_desc (n := n) q hq n (Nat.le_refl _)
  rw [zc_all (by rw [desc_len]; exact Nat.le_refl _), (desc_perm n).countP_eq _] at this
  rw [this]
theorem row_even {x m y j : Nat} (hm : 1 ≤ m) : rowT x m y (2 * j + 2) = ascN (x + m + y) ↔ (x ≤ j * m ∨ y ≤ j * m) := by
  constructor
  · intro h
    apply Classical.byContradiction
    intro g
    -- the threshold: as many zeros as fit
    have hq : x + m + y - min x y ≤ x + m + y := Nat.sub_le _ _
    have e := (full_odd (x := x) (y := y) hm hq j).2.1
    unfold fullT at e
    rw [h, zc_asc hq] at e
    generalize j * m = jm at *
    omega
  · intro g
    refine asc_zc (rowT_perm hm _) fun q hq p hp => ?_
    have e := (full_odd (x := x) (y := y) hm hq j)
    have s := full_succ (x := x) (y := y) hm hq (2 * j + 1) p
    rw [if_neg (by omega)] at s
    have s1 := full_succ (x := x) (y := y) hm hq (2 * j) p
    rw [if_pos (by omega)] at s1
    have sx := full_succ (x := x) (y := y) hm hq (2 * j) x
    rw [if_pos (by omega), if_pos (by omega)] at sx
    show fullT x m y q (2 * j + 1 + 1) p = _
    rw [s]
    generalize j * m = jm at *
    have e1 := e.1
    generalize fullT x m y q (2 * j) (x + m) = B at *
    by_cases g1 : p ≤ x
    · rw [if_pos g1, s1, if_pos (by omega)]; omega
    · rw [if_neg g1, if_pos hp]; omega
theorem row_odd {x m y j : Nat} (hm : 1 ≤ m) : rowT x m y (2 * j + 3) = ascN (x + m + y) ↔ (x ≤ j * m ∨ y ≤ (j + 1) * m) := by
  rw [show (j + 1) * m = j * m + m from Nat.succ_mul j m]
  constructor
  · intro h
    apply Classical.byContradiction
    intro g
    have hq : x + m + y - min (x + m) y ≤ x + m + y := Nat.sub_le _ _
    have e := (full_odd (x := x) (y := y) hm hq j)
    have s := full_succ (x := x) (y := y) hm hq (2 * j + 2) (x + m)
    rw [if_pos (by omega), if_pos (Nat.le_refl _), e.2.2, e.1] at s
    unfold fullT at s
    rw [h, zc_asc hq] at s
    generalize j * m = jm at *
    omega
  · intro g
    refine asc_zc (rowT_perm hm _) fun q hq p hp => ?_
    have e := (full_odd (x := x) (y := y) hm hq j)
    have s := full_succ (x := x) (y := y) hm hq (2 * j + 2) p
    rw [if_pos (by omega), e.2.2] at s
    have s1 := full_succ (x := x) (y := y) hm hq (2 * j + 1) p
    rw [if_neg (by omega)] at s1
    show fullT x m y q (2 * j + 2 + 1) p = _
    rw [s]
    generalize j * m = jm at *
    have e1 := e.1
    rw [e1]
    by_cases g1 : p ≤ x + m
    · rw [if_pos g1]; omega
    · rw [if_neg g1, s1, if_neg (by omega), if_pos hp, e1]; omega
theorem row_one {x m y : Nat} (hm : 1 ≤ m) : rowT x m y 1 = ascN (x + m + y) ↔ y = 0 := by
  constructor
  · intro h
    apply Classical.byContradiction
    intro g
    have hq : x + m + y - 1 ≤ x + m + y := Nat.sub_le _ _
    have s := full_succ (x := x) (y := y) hm hq 0 (x + m)
    rw [if_pos rfl, if_pos (Nat.le_refl _), full_zero hq (by omega)] at s
    unfold fullT at s
    rw [h, zc_asc hq] at s
    omega
  · rintro rfl
    refine asc_zc (rowT_perm hm _) fun q hq p hp => ?_
    have s := full_succ (x := x) (y := 0) hm hq 0 p
    rw [if_pos rfl, if_pos (by omega), full_zero hq (by omega)] at s
    show fullT x m 0 q (0 + 1) p = _
    rw [s]; omega
theorem row_none {x m y : Nat} (h : 2 ≤ x + m + y) : rowT x m y 0 ≠ ascN (x + m + y) := by
  intro e
  have hq : x + m + y - 1 ≤ x + m + y := Nat.sub_le _ _
  have s := full_zero (x := x) (m := m) (y := y) hq (p := 1) (by omega)
  unfold fullT at s
  rw [e, zc_asc hq] at s
  omega
def upD (a m : Nat) : Nat := (a + m - 1) / m
theorem upD_le {a m j : Nat} (hm : 1 ≤ m) : upD a m ≤ j ↔ a ≤ j * m := by
  unfold upD
  rw [← Nat.lt_succ_iff, Nat.div_lt_iff_lt_mul (by omega), Nat.succ_mul]
  generalize j * m = jm
  omega
/-- how many turns -/
def trnM (x m y : Nat) : Nat := if x + m + y = 1 then 0 else min (2 * upD y m + 1) (2 * upD x m + 2)
theorem row_iff {x m y t : Nat} (hm : 1 ≤ m) : rowT x m y t = ascN (x + m + y) ↔ trnM x m y ≤ t := by
  unfold trnM
  by_cases h1 : x + m + y = 1
  · rw [if_pos h1]
    refine ⟨fun _ => Nat.zero_le _, fun _ => ?_⟩
    have hp := rowT_perm (x := x) (y := y) hm t
    rw [h1] at hp ⊢
    exact List.perm_singleton.mp hp
  · rw [if_neg h1]
    have k1 := fun j => upD_le (a := x) (j := j) hm
    have k2 := fun j => upD_le (a := y) (j := j) hm
    match t with
    | 0 => exact ⟨fun e => absurd e (row_none (by omega)), fun e => by omega⟩
    | 1 =>
      rw [row_one hm]
      have := k2 0
      rw [Nat.zero_mul] at this
      omega
    | t + 2 =>
      rcases Nat.mod_two_eq_zero_or_one t with e | e
      · obtain ⟨j, rfl⟩ : ∃ j, t = 2 * j := ⟨t / 2, by omega⟩
        rw [row_even hm, ← k1, ← k2]; omega
      · obtain ⟨j, rfl⟩ : ∃ j, t = 2 * j + 1 := ⟨t / 2, by omega⟩
        rw [show 2 * j + 1 + 2 = 2 * j + 3 by omega, row_odd hm, ← k1, ← k2]; omega
end My
namespace My
/-- the stretches of the blocks, each sorted -/
def dueM (l : List Int) (bs : List Cmd) : List Int := bs.flatMap fun c => srt ((l.drop (c.1 - 1)).take (c.2 - (c.1 - 1)))
theorem due_run : ∀ {bs : List Cmd} {s e : Nat} {l : List Int}, Tile s bs e → 1 ≤ s → e ≤ l.length + 1 → runM l bs = l.take (s - 1) ++ dueM l bs ++ l.drop (e - 1)
  | [], s, e, l, h, _, _ => by
    have : s = e := h
    subst this
    show l = _
    rw [show dueM l [] = [] from rfl, List.append_nil, List.take_append_drop]
  | c :: r, s, e, l, h, hs, he => by
    have h0 := h.1
    have h1 := h.2.1
    have hle := (tile_le h.2.2).1
    have ht := (tile_le h.2.2).2
    have h3 : c.2 ≤ l.length := by omega
    have hl : (step l c).length = l.length := seg_len (by omega) h3
    have eS : step l c = l.take (c.1 - 1) ++ srt ((l.drop (c.1 - 1)).take (c.2 - (c.1 - 1))) ++ l.drop c.2 := rfl
    have l1 : (l.take (c.1 - 1) ++ srt ((l.drop (c.1 - 1)).take (c.2 - (c.1 - 1)))).length = c.2 := by
      rw [List.length_append, srt_len, List.length_take, List.length_take, List.length_drop]; omega
    have e1 : (step l c).take c.2 = l.take (c.1 - 1) ++ srt ((l.drop (c.1 - 1)).take (c.2 - (c.1 - 1))) := by
      rw [eS, List.take_append_of_le_length (by omega), List.take_of_length_le (by omega)]
    have e2 : ∀ k, c.2 ≤ k → (step l c).drop k = l.drop k := fun k hk => by
      rw [eS, List.drop_append, List.drop_of_length_le (by omega), l1, List.drop_drop, List.nil_append, show c.2 + (k - c.2) = k by omega]
    show runM (step l c) r = _
    rw [due_run h.2.2 (by omega) (by omega), show c.2 + 1 - 1 = c.2 by omega, e1, e2 _ (by omega)]
    have e3 : dueM (step l c) r = dueM l r := by
      unfold dueM
      rw [List.flatMap, List.flatMap]
      congr 1
      refine List.map_congr_left fun d hd => ?_
      have := ht d hd
      rw [e2 _ (by omega)]
    rw [e3, show dueM l (c :: r) = srt ((l.drop (c.1 - 1)).take (c.2 - (c.1 - 1))) ++ dueM l r from rfl, h0]
    simp only [List.append_assoc]
theorem len_sum : ∀ {ks : List Nat}, (∀ k ∈ ks, 1 ≤ k) → ks.length ≤ ks.sum
  | [], _ => Nat.le_refl _
  | a :: t, h => by
    have h1 := h a List.mem_cons_self
    have h2 := len_sum (ks := t) fun k hk => h k (List.mem_cons_of_mem _ hk)
    rw [List.length_cons, List.sum_cons]; omega
theorem blk_len {n : Nat} {cs : List Cmd} (hf : Fits n cs) (hn : 1 ≤ n) : (blkM n cs).length ≤ n := by
  have h5 := len_sum (ks := lenM n cs) fun k hk => by
    obtain ⟨c, _, rfl⟩ := List.mem_map.mp hk
    omega
  rw [lenM_sum hf hn] at h5
  unfold lenM at h5
  rwa [List.length_map] at h5
theorem blkU_lnk {cs ds : List Cmd} (h : ∀ p, lnk cs p = lnk ds p) : ∀ i, blkU cs i = blkU ds i
  | 0 => rfl
  | i + 1 => by
    show (if lnk cs (i + 1) then blkU cs i else _) = (if lnk ds (i + 1) then blkU ds i else _)
    rw [h, blkU_lnk h i]
/-- a block's stretch stands in what later blocks make -/
theorem tile_fix : ∀ {bs : List Cmd} {s e : Nat} {l : List Int}, Tile s bs e → 1 ≤ s → e ≤ l.length + 1 → RiseB bs (runM l bs)
  | [], _, _, _, _, _, _ => fun c hc => by cases hc
  | c :: r, s, e, l, h, hs, he => by
    have h0 := h.1
    have h1 := h.2.1
    have hle := (tile_le h.2.2).1
    have hl : (step l c).length = l.length := seg_len (by omega) (by omega)
    intro d hd
    show ∀ p, d.1 ≤ p → p < d.2 → (runM (step l c) r).getD (p - 1) 0 ≤ (runM (step l c) r).getD p 0
    rcases List.mem_cons.mp hd with g | g
    · subst g
      have hold : ∀ i, i < d.2 → (runM (step l d) r).getD i 0 = (step l d).getD i 0 := fun i hi => by
        rw [due_run h.2.2 (by omega) (by omega), show d.2 + 1 - 1 = d.2 by omega, List.append_assoc, List.getD_eq_getElem?_getD, List.getD_eq_getElem?_getD, List.getElem?_append_left (by rw [List.length_take]; omega), List.getElem?_take, if_pos hi]
      intro p h2 h3
      rw [hold _ (by omega), hold _ h3]
      refine (str_adj (l := step l d) (by omega) (by omega)).mp ?_ p h2 h3
      obtain ⟨A, M, B, _, hA, hM, e⟩ := seg_split (l := l) (i := d.1) (j := d.2) (by omega) (by omega)
      have e' : step l d = A ++ srt M ++ B := e
      have e2 : ((A ++ srt M ++ B).drop (d.1 - 1)).take (d.2 - (d.1 - 1)) = srt M := by
        rw [List.append_assoc, List.drop_append_of_le_length (by omega), List.drop_of_length_le (by omega), List.nil_append, List.take_append_of_le_length (by rw [srt_len]; omega), List.take_of_length_le (by rw [srt_len]; omega)]
      rw [e', e2]
      exact srt_up M
    · exact tile_fix h.2.2 (by omega) (by omega) d g
theorem lnk_blk {n : Nat} {cs : List Cmd} (hf : Fits n cs) (hn : 1 ≤ n) (p : Nat) : lnk (blkM n cs) p = lnk cs p := by
  obtain ⟨ht, hb⟩ := blkM_ok hf hn
  cases e : lnk cs p with
  | true =>
    rw [lnk_iff]
    obtain ⟨c, hc, g1, g2⟩ := lnk_iff.mp e
    have := hf c hc
    obtain ⟨d, hd, q1, q2⟩ := tile_mem ht (show 1 ≤ p by omega) (show p < n + 1 by omega)
    refine ⟨d, hd, q1, ?_⟩
    rcases Nat.lt_or_eq_of_le q2 with q | q
    · exact q
    · have := (hb d hd).1
      rw [← q, e] at this; cases this
  | false =>
    cases z : lnk (blkM n cs) p with
    | false => rfl
    | true =>
      obtain ⟨d, hd, q1, q2⟩ := lnk_iff.mp z
      have := (hb d hd).2 p q1 q2
      rw [e] at this; cases this
theorem blk_blk {n : Nat} {cs : List Cmd} (hf : Fits n cs) (hn : 1 ≤ n) : blkM n (blkM n cs) = blkM n cs := by
  show (blkU (blkM n cs) n).1 = (blkU cs n).1
  rw [blkU_lnk (lnk_blk hf hn)]
theorem blk_fits {n : Nat} {cs : List Cmd} (hf : Fits n cs) (hn : 1 ≤ n) : Fits n (blkM n cs) := tile_fits (blkM_ok hf hn).1 (Nat.le_refl 1) (Nat.le_refl _)
/-- a row that is sorted along the blocks stays -/
theorem run_blk_fix {n : Nat} {cs : List Cmd} {l : List Int} (hf : Fits n cs) (hn : 1 ≤ n) (hl : l.length = n) : runM (runM l (blkM n cs)) cs = runM l (blkM n cs) := by
  refine (fix_rise hf hn ?_).mpr (tile_fix (blkM_ok hf hn).1 (Nat.le_refl 1) (by omega))
  rw [(runM_perm _ _ (by rw [hl]; exact blk_fits hf hn)).length_eq, hl]
/-! the last row that stays -/
def lastM : List Nat → List Int → List Int
  | [], _ => []
  | k :: ks, vs => vs.drop (vs.length - k) ++ lastM ks (vs.take (vs.length - k))
theorem ch_last : ∀ {vs : List Int} {k : Nat}, vs.Pairwise (· < ·) → k ≤ vs.length → chIx vs (vs.drop (vs.length - k)) + 1 = Xk.cmb vs.length k
  | [], k, _, h => by
    obtain rfl : k = 0 := by simpa using h
    rfl
  | v :: r, 0, _, _ => by
    rw [Nat.sub_zero, List.drop_of_length_le (Nat.le_refl _), Xk.cmb_zero]; rfl
  | v :: r, k + 1, h, hk => by
    obtain ⟨h1, h2⟩ := List.pairwise_cons.mp h
    rw [List.length_cons] at hk ⊢
    by_cases e : k = r.length
    · subst e
      rw [Nat.sub_self, List.drop_zero, Xk.cmb_self]
      have ih := ch_last (k := r.length) h2 (Nat.le_refl _)
      rw [Nat.sub_self, List.drop_zero, Xk.cmb_self] at ih
      show (if v = v then chIx r r else _) + 1 = 1
      rw [if_pos rfl, ih]
    · have ih := ch_last (k := k + 1) h2 (by omega)
      rw [show r.length + 1 - (k + 1) = (r.length - (k + 1)) + 1 by omega, List.drop_succ_cons]
      have hlen : (r.drop (r.length - (k + 1))).length = k + 1 := by rw [List.length_drop]; omega
      have hsub : ∀ y ∈ r.drop (r.length - (k + 1)), v < y := fun y hy => h1 y (List.mem_of_mem_drop hy)
      generalize r.drop (r.length - (k + 1)) = D at ih hlen hsub ⊢
      match D, hlen with
      | x :: t, hl =>
        have hx := hsub x List.mem_cons_self
        have ht : t.length = k := by simpa using hl
        show (if v = x then chIx r t else Xk.cmb r.length t.length + chIx r (x :: t)) + 1 = Xk.cmb r.length k + Xk.cmb r.length (k + 1)
        rw [if_neg (by omega), ht, ← ih]
        omega
theorem rest_last {T D : List Int} (h : (T ++ D).Pairwise (· < ·)) : rest (T ++ D) D = T := by
  obtain ⟨_, _, h3⟩ := List.pairwise_append.mp h
  unfold rest
  have e1 : T.filter (fun v => !decide (v ∈ D)) = T := List.filter_eq_self.mpr fun x hx => by
    rw [Bool.not_eq_true', decide_eq_false_iff_not]
    intro hd
    have := h3 x hx x hd
    omega
  have e2 : D.filter (fun v => !decide (v ∈ D)) = [] := List.filter_eq_nil_iff.mpr fun x hx => by
    rw [Bool.not_eq_true', decide_eq_false_iff_not]
    exact fun z => z hx
  rw [List.filter_append, e1, e2, List.append_nil]
theorem last_ok : ∀ {ks : List Nat} {vs : List Int}, ks.sum = vs.length → vs.Pairwise (· < ·) → (lastM ks vs).Perm vs ∧ Rise ks (lastM ks vs) ∧ eIx ks vs (lastM ks vs) + 1 = mulM ks vs.length
  | [], vs, h, _ => by
    obtain rfl : vs = [] := List.eq_nil_of_length_eq_zero h.symm
    exact ⟨List.Perm.refl _, rfl, rfl⟩
  | k :: ks, vs, h, hp => by
    rw [List.sum_cons] at h
    have hT : (vs.take (vs.length - k)).length = vs.length - k := by rw [List.length_take]; omega
    have hD : (vs.drop (vs.length - k)).length = k := by rw [List.length_drop]; omega
    have e : vs.take (vs.length - k) ++ vs.drop (vs.length - k) = vs := List.take_append_drop _ _
    obtain ⟨i1, i2, i3⟩ := last_ok (ks := ks) (vs := vs.take (vs.length - k)) (by omega) (hp.sublist (List.take_sublist _ _))
    have ch := ch_last hp (show k ≤ vs.length by omega)
    have hr : rest vs (vs.drop (vs.length - k)) = vs.take (vs.length - k) := by
      have := rest_last (T := vs.take (vs.length - k)) (D := vs.drop (vs.length - k)) (by rw [e]; exact hp)
      rwa [e] at this
    have t1 : (lastM (k :: ks) vs).take k = vs.drop (vs.length - k) := by
      show (vs.drop (vs.length - k) ++ lastM ks (vs.take (vs.length - k))).take k = _
      rw [List.take_append_of_le_length (by omega), List.take_of_length_le (by omega)]
    have t2 : (lastM (k :: ks) vs).drop k = lastM ks (vs.take (vs.length - k)) := by
      show (vs.drop (vs.length - k) ++ lastM ks (vs.take (vs.length - k))).drop k = _
      rw [List.drop_append_of_le_length (by omega), List.drop_of_length_le (by omega), List.nil_append]
    refine ⟨?_, ⟨?_, ?_⟩, ?_⟩
    · show (vs.drop (vs.length - k) ++ lastM ks (vs.take (vs.length - k))).Perm vs
      exact ((i1.append_left _).trans List.perm_append_comm).trans (by rw [e])
    · rw [t1]; exact (hp.sublist (List.drop_sublist _ _)).imp fun g => by omega
    · rw [t2]; exact i2
    · show chIx vs ((lastM (k :: ks) vs).take k) * mulM ks (vs.length - k) + eIx ks (rest vs ((lastM (k :: ks) vs).take k)) ((lastM (k :: ks) vs).drop k) + 1 = Xk.cmb vs.length k * mulM ks (vs.length - k)
      rw [t1, t2, hr, Nat.add_assoc, i3, hT, ← ch, Nat.add_mul, Nat.one_mul]
theorem enu_ix {ks : List Nat} {vs l : List Int} {k : Nat} (h : vs.Pairwise (· < ·)) (hs : ks.sum = vs.length) (e : (enu ks vs)[k]? = some l) : l.Perm vs ∧ Rise ks l ∧ eIx ks vs l = k := by
  obtain ⟨hk, ek⟩ := List.getElem?_eq_some_iff.mp e
  have hm : l ∈ enu ks vs := ek ▸ List.getElem_mem hk
  obtain ⟨hp, hr⟩ := (enu_mem ks h hs).mp hm
  refine ⟨hp, hr, ?_⟩
  obtain ⟨e2, _⟩ := enu_at ks h hs hp hr
  obtain ⟨hj, ej⟩ := List.getElem?_eq_some_iff.mp e2
  have hx := List.pairwise_iff_getElem.mp (enu_lex ks h)
  rcases Nat.lt_trichotomy (eIx ks vs l) k with g | g | g
  · have := hx _ _ hj hk g
    rw [ej, ek] at this
    exact absurd this (fun z => lex_asym z z)
  · exact g
  · have := hx _ _ hk hj g
    rw [ej, ek] at this
    exact absurd this (fun z => lex_asym z z)
theorem enu_le {ks : List Nat} {vs l m : List Int} {i j : Nat} (h : vs.Pairwise (· < ·)) (e : (enu ks vs)[i]? = some l) (g : (enu ks vs)[j]? = some m) (hij : i ≤ j) : l = m ∨ lexL l m := by
  obtain ⟨hi, ei⟩ := List.getElem?_eq_some_iff.mp e
  obtain ⟨hj, ej⟩ := List.getElem?_eq_some_iff.mp g
  rcases Nat.lt_or_eq_of_le hij with q | q
  · have := List.pairwise_iff_getElem.mp (enu_lex ks h) _ _ hi hj q
    rw [ei, ej] at this
    exact .inr this
  · subst q
    rw [e] at g
    exact .inl (Option.some.inj g)
/-- two neighbours of a block exchanged -/
def bentM (l : List Int) (p : Nat) : List Int := l.take (p - 1) ++ [l.getD p 0, l.getD (p - 1) 0] ++ l.drop (p + 1)
theorem bent_perm {l : List Int} {p : Nat} (h1 : 1 ≤ p) (h2 : p < l.length) : (bentM l p).Perm l := by
  have e : l = l.take (p - 1) ++ [l.getD (p - 1) 0, l.getD p 0] ++ l.drop (p + 1) := by
    have a : l.drop (p - 1) = l.getD (p - 1) 0 :: l.getD p 0 :: l.drop (p + 1) := by
      rw [List.drop_eq_getElem_cons (show p - 1 < l.length by omega), show p - 1 + 1 = p by omega, List.drop_eq_getElem_cons h2]
      simp [List.getD, h2, show p - 1 < l.length by omega]
    conv => lhs; rw [← List.take_append_drop (p - 1) l, a]
    simp
  unfold bentM
  conv => rhs; rw [e]
  exact ((List.Perm.swap _ _ []).append_left _).append_right _
theorem bent_no {n : Nat} {cs : List Cmd} {l : List Int} {c : Cmd} {p : Nat} (hf : Fits n cs) (hn : 1 ≤ n) (hp : l.Perm (ascN n)) (hx : runM l cs = l) (hc : c ∈ blkM n cs) (h1 : c.1 ≤ p) (h2 : p < c.2) : runM (bentM l p) cs ≠ bentM l p := by
  have hl := perm_len hp
  have hb := (tile_le (blkM_ok hf hn).1).2 c hc
  have hr := (fix_rise hf hn hl).mp hx c hc p h1 h2
  have hbl : (bentM l p).length = n := by rw [(bent_perm (by omega) (by omega)).length_eq, hl]
  intro z
  have hz := (fix_rise hf hn hbl).mp z c hc p h1 h2
  have e1 : (bentM l p).getD (p - 1) 0 = l.getD p 0 := by
    unfold bentM
    rw [List.getD_eq_getElem?_getD, List.append_assoc, List.getElem?_append_right (by rw [List.length_take]; omega), List.length_take, show p - 1 - min (p - 1) l.length = 0 by omega]; rfl
  have e2 : (bentM l p).getD p 0 = l.getD (p - 1) 0 := by
    unfold bentM
    rw [List.getD_eq_getElem?_getD, List.append_assoc, List.getElem?_append_right (by rw [List.length_take]; omega), List.length_take, show p - min (p - 1) l.length = 1 by omega]; rfl
  rw [e1, e2] at hz
  have nd : l.Nodup := hp.nodup_iff.mpr (up_nodup (asc_lt n))
  have hne : l.getD (p - 1) 0 ≠ l.getD p 0 := by
    have g1 : l.getD (p - 1) 0 = l[p - 1]'(by omega) := by simp [List.getD, show p - 1 < l.length by omega]
    have g2 : l.getD p 0 = l[p]'(by omega) := by simp [List.getD, show p < l.length by omega]
    rw [g1, g2]
    intro z
    have := (List.getElem_inj nd).mp z
    omega
  omega
end My
namespace L34
open PySem PySem.Spec PyProof.Rows L2 Xk
def topS (i : Nat) : Stmt := PySem.Challenge.pw_sortstretches_k34_whole_many_unchanged_r.main.body.getD i (.Pass ⟨0, 0, 0, 0⟩)
abbrev s_check_size : Stmt := topS 8
theorem sc_check_size : FnScope ["size"] ["size"] (defScope s_check_size) := ⟨rfl, rfl, rfl, by decide +kernel, rfl, by decide +kernel, by decide +kernel⟩
abbrev s_check_script : Stmt := topS 9
theorem sc_check_script : FnScope ["size", "commands", "index", "first", "last"] ["size", "commands"] (defScope s_check_script) := ⟨rfl, rfl, rfl, by decide +kernel, rfl, by decide +kernel, by decide +kernel⟩
abbrev s_check_sized_script : Stmt := topS 10
theorem sc_check_sized_script : FnScope ["size", "commands"] ["size", "commands"] (defScope s_check_sized_script) := ⟨rfl, rfl, rfl, by decide +kernel, rfl, by decide +kernel, by decide +kernel⟩
abbrev s_check_arrangement : Stmt := topS 11
theorem sc_check_arrangement : FnScope ["row", "seen", "index", "value"] ["row"] (defScope s_check_arrangement) := ⟨rfl, rfl, rfl, by decide +kernel, rfl, by decide +kernel, by decide +kernel⟩
abbrev s_sort_stretches : Stmt := topS 13
theorem sc_sort_stretches : FnScope ["row", "commands", "present", "first", "last"] ["row", "commands"] (defScope s_sort_stretches) := ⟨rfl, rfl, rfl, by decide +kernel, rfl, by decide +kernel, by decide +kernel⟩
abbrev s_run : Stmt := topS 14
theorem sc_run : FnScope ["row", "commands"] ["row", "commands"] (defScope s_run) := ⟨rfl, rfl, rfl, by decide +kernel, rfl, by decide +kernel, by decide +kernel⟩
abbrev s_linked_blocks : Stmt := topS 16
theorem sc_linked_blocks : FnScope ["size", "commands", "linked", "first", "last", "place", "found", "start", "goes_on"] ["size", "commands"] (defScope s_linked_blocks) := ⟨rfl, rfl, rfl, by decide +kernel, rfl, by decide +kernel, by decide +kernel⟩
abbrev s_blocks : Stmt := topS 17
theorem sc_blocks : FnScope ["size", "commands"] ["size", "commands"] (defScope s_blocks) := ⟨rfl, rfl, rfl, by decide +kernel, rfl, by decide +kernel, by decide +kernel⟩
abbrev s_block_lengths : Stmt := topS 18
theorem sc_block_lengths : FnScope ["size", "commands", "first", "last"] ["size", "commands"] (defScope s_block_lengths) := ⟨rfl, rfl, rfl, by decide +kernel, rfl, by decide +kernel, by decide +kernel⟩
abbrev s_count_unchanged : Stmt := topS 19
theorem sc_count_unchanged : FnScope ["size", "commands", "many", "left", "length"] ["size", "commands"] (defScope s_count_unchanged) := ⟨rfl, rfl, rfl, by decide +kernel, rfl, by decide +kernel, by decide +kernel⟩
abbrev s_nth_choice : Stmt := topS 20
theorem sc_nth_choice : FnScope ["values", "length", "number", "chosen", "left", "index", "value", "many"] ["values", "length", "number"] (defScope s_nth_choice) := ⟨rfl, rfl, rfl, by decide +kernel, rfl, by decide +kernel, by decide +kernel⟩
abbrev s_choice_number : Stmt := topS 21
theorem sc_choice_number : FnScope ["values", "chosen", "number", "found", "index", "value"] ["values", "chosen"] (defScope s_choice_number) := ⟨rfl, rfl, rfl, by decide +kernel, rfl, by decide +kernel, by decide +kernel⟩
abbrev s_nth_unchanged : Stmt := topS 22
theorem sc_nth_unchanged : FnScope ["size", "commands", "number", "many", "row", "values", "left", "length", "choice", "chosen", "value"] ["size", "commands", "number"] (defScope s_nth_unchanged) := ⟨rfl, rfl, rfl, by decide +kernel, rfl, by decide +kernel, by decide +kernel⟩
abbrev s_unchanged_number : Stmt := topS 23
theorem sc_unchanged_number : FnScope ["commands", "row", "number", "values", "first", "last", "chosen", "value"] ["commands", "row"] (defScope s_unchanged_number) := ⟨rfl, rfl, rfl, by decide +kernel, rfl, by decide +kernel, by decide +kernel⟩
abbrev s_greatest_before : Stmt := topS 25
theorem sc_greatest_before : FnScope ["commands", "row", "present", "first", "last"] ["commands", "row"] (defScope s_greatest_before) := ⟨rfl, rfl, rfl, by decide +kernel, rfl, by decide +kernel, by decide +kernel⟩
abbrev s_is_result : Stmt := topS 26
theorem sc_is_result : FnScope ["row", "commands", "before"] ["row", "commands"] (defScope s_is_result) := ⟨rfl, rfl, rfl, by decide +kernel, rfl, by decide +kernel, by decide +kernel⟩
abbrev s_law_pool : Stmt := topS 28
theorem sc_law_pool : FnScope ["script", "at", "cell"] ["script", "at"] (defScope s_law_pool) := ⟨rfl, rfl, rfl, by decide +kernel, rfl, by decide +kernel, by decide +kernel⟩
abbrev s_law_draw : Stmt := topS 29
theorem sc_law_draw : FnScope ["pool", "many", "drawn", "mixed"] ["pool", "many"] (defScope s_law_draw) := ⟨rfl, rfl, rfl, by decide +kernel, rfl, by decide +kernel, by decide +kernel⟩
abbrev s_law_steps : Stmt := topS 30
theorem sc_law_steps : FnScope ["pool", "wide", "most", "way", "found", "cut", "turn", "begin", "end"] ["pool", "wide", "most"] (defScope s_law_steps) := ⟨rfl, rfl, rfl, by decide +kernel, rfl, by decide +kernel, by decide +kernel⟩
abbrev s_law_line : Stmt := topS 31
theorem sc_law_line : FnScope ["pool", "wide", "left", "spot"] ["pool", "wide"] (defScope s_law_line) := ⟨rfl, rfl, rfl, by decide +kernel, rfl, by decide +kernel, by decide +kernel⟩
abbrev s_law_blocks : Stmt := topS 32
theorem sc_law_blocks : FnScope ["wide", "steps_here", "found", "place", "begin", "end"] ["wide", "steps_here"] (defScope s_law_blocks) := ⟨rfl, rfl, rfl, by decide +kernel, rfl, by decide +kernel, by decide +kernel⟩
abbrev s_law_rising : Stmt := topS 33
theorem sc_law_rising : FnScope ["line_here", "parts", "begin", "end", "piece"] ["line_here", "parts"] (defScope s_law_rising) := ⟨rfl, rfl, rfl, by decide +kernel, rfl, by decide +kernel, by decide +kernel⟩
abbrev s_law_factorial : Stmt := topS 34
theorem sc_law_factorial : FnScope ["many", "found", "turn"] ["many"] (defScope s_law_factorial) := ⟨rfl, rfl, rfl, by decide +kernel, rfl, by decide +kernel, by decide +kernel⟩
abbrev s_law_changed_right : Stmt := topS 35
theorem sc_law_changed_right : FnScope ["pool", "steps_here", "parts", "lines_here", "some", "one", "begin", "end", "spot", "bent"] ["pool", "steps_here", "parts", "lines_here"] (defScope s_law_changed_right) := ⟨rfl, rfl, rfl, by decide +kernel, rfl, by decide +kernel, by decide +kernel⟩
abbrev s_law_right : Stmt := topS 36
theorem sc_law_right : FnScope ["pool", "wide", "steps_here", "parts", "many", "begin", "end", "top", "drawn", "spots", "lines_here", "some", "spot", "left", "last", "one"] ["pool", "wide"] (defScope s_law_right) := ⟨rfl, rfl, rfl, by decide +kernel, rfl, by decide +kernel, by decide +kernel⟩
abbrev s_law : Stmt := topS 37
theorem sc_law : FnScope ["script", "at", "pool", "turn"] ["script"] (defScope s_law) := ⟨rfl, rfl, rfl, by decide +kernel, rfl, by decide +kernel, by decide +kernel⟩
structure Txt (K : PySem.W.Frag) (mg : Str → Option Value) where
  check_size_a : Addr
  check_size_d : FuncData
  check_size_F : Fun K "check_size" "check_size" s_check_size check_size_a check_size_d
  check_size_b : Binds K check_size_d ["size"] []
  check_size_g : mg "check_size" = some (.ref check_size_a)
  check_script_a : Addr
  check_script_d : FuncData
  check_script_F : Fun K "check_script" "check_script" s_check_script check_script_a check_script_d
  check_script_b : Binds K check_script_d ["size", "commands"] []
  check_script_g : mg "check_script" = some (.ref check_script_a)
  check_sized_script_a : Addr
  check_sized_script_d : FuncData
  check_sized_script_F : Fun K "check_sized_script" "check_sized_script" s_check_sized_script check_sized_script_a check_sized_script_d
  check_sized_script_b : Binds K check_sized_script_d ["size", "commands"] []
  check_sized_script_g : mg "check_sized_script" = some (.ref check_sized_script_a)
  check_arrangement_a : Addr
  check_arrangement_d : FuncData
  check_arrangement_F : Fun K "check_arrangement" "check_arrangement" s_check_arrangement check_arrangement_a check_arrangement_d
  check_arrangement_b : Binds K check_arrangement_d ["row"] []
  check_arrangement_g : mg "check_arrangement" = some (.ref check_arrangement_a)
  sort_stretches_a : Addr
  sort_stretches_d : FuncData
  sort_stretches_F : Fun K "sort_stretches" "sort_stretches" s_sort_stretches sort_stretches_a sort_stretches_d
  sort_stretches_b : Binds K sort_stretches_d ["row", "commands"] []
  sort_stretches_g : mg "sort_stretches" = some (.ref sort_stretches_a)
  run_a : Addr
  run_d : FuncData
  run_F : Fun K "run" "run" s_run run_a run_d
  run_b : Binds K run_d ["row", "commands"] []
  run_g : mg "run" = some (.ref run_a)
  linked_blocks_a : Addr
  linked_blocks_d : FuncData
  linked_blocks_F : Fun K "linked_blocks" "linked_blocks" s_linked_blocks linked_blocks_a linked_blocks_d
  linked_blocks_b : Binds K linked_blocks_d ["size", "commands"] []
  linked_blocks_g : mg "linked_blocks" = some (.ref linked_blocks_a)
  blocks_a : Addr
  blocks_d : FuncData
  blocks_F : Fun K "blocks" "blocks" s_blocks blocks_a blocks_d
  blocks_b : Binds K blocks_d ["size", "commands"] []
  blocks_g : mg "blocks" = some (.ref blocks_a)
  block_lengths_a : Addr
  block_lengths_d : FuncData
  block_lengths_F : Fun K "block_lengths" "block_lengths" s_block_lengths block_lengths_a block_lengths_d
  block_lengths_b : Binds K block_lengths_d ["size", "commands"] []
  block_lengths_g : mg "block_lengths" = some (.ref block_lengths_a)
  count_unchanged_a : Addr
  count_unchanged_d : FuncData
  count_unchanged_F : Fun K "count_unchanged" "count_unchanged" s_count_unchanged count_unchanged_a count_unchanged_d
  count_unchanged_b : Binds K count_unchanged_d ["size", "commands"] []
  count_unchanged_g : mg "count_unchanged" = some (.ref count_unchanged_a)
  nth_choice_a : Addr
  nth_choice_d : FuncData
  nth_choice_F : Fun K "nth_choice" "nth_choice" s_nth_choice nth_choice_a nth_choice_d
  nth_choice_b : Binds K nth_choice_d ["values", "length", "number"] []
  nth_choice_g : mg "nth_choice" = some (.ref nth_choice_a)
  choice_number_a : Addr
  choice_number_d : FuncData
  choice_number_F : Fun K "choice_number" "choice_number" s_choice_number choice_number_a choice_number_d
  choice_number_b : Binds K choice_number_d ["values", "chosen"] []
  choice_number_g : mg "choice_number" = some (.ref choice_number_a)
  nth_unchanged_a : Addr
  nth_unchanged_d : FuncData
  nth_unchanged_F : Fun K "nth_unchanged" "nth_unchanged" s_nth_unchanged nth_unchanged_a nth_unchanged_d
  nth_unchanged_b : Binds K nth_unchanged_d ["size", "commands", "number"] []
  nth_unchanged_g : mg "nth_unchanged" = some (.ref nth_unchanged_a)
  unchanged_number_a : Addr
  unchanged_number_d : FuncData
  unchanged_number_F : Fun K "unchanged_number" "unchanged_number" s_unchanged_number unchanged_number_a unchanged_number_d
  unchanged_number_b : Binds K unchanged_number_d ["commands", "row"] []
  unchanged_number_g : mg "unchanged_number" = some (.ref unchanged_number_a)
  greatest_before_a : Addr
  greatest_before_d : FuncData
  greatest_before_F : Fun K "greatest_before" "greatest_before" s_greatest_before greatest_before_a greatest_before_d
  greatest_before_b : Binds K greatest_before_d ["commands", "row"] []
  greatest_before_g : mg "greatest_before" = some (.ref greatest_before_a)
  is_result_a : Addr
  is_result_d : FuncData
  is_result_F : Fun K "is_result" "is_result" s_is_result is_result_a is_result_d
  is_result_b : Binds K is_result_d ["row", "commands"] []
  is_result_g : mg "is_result" = some (.ref is_result_a)
  law_pool_a : Addr
  law_pool_d : FuncData
  law_pool_F : Fun K "_law_pool" "_law_pool" s_law_pool law_pool_a law_pool_d
  law_pool_b : Binds K law_pool_d ["script", "at"] []
  law_pool_g : mg "_law_pool" = some (.ref law_pool_a)
  law_draw_a : Addr
  law_draw_d : FuncData
  law_draw_F : Fun K "_law_draw" "_law_draw" s_law_draw law_draw_a law_draw_d
  law_draw_b : Binds K law_draw_d ["pool", "many"] []
  law_draw_g : mg "_law_draw" = some (.ref law_draw_a)
  law_steps_a : Addr
  law_steps_d : FuncData
  law_steps_F : Fun K "_law_steps" "_law_steps" s_law_steps law_steps_a law_steps_d
  law_steps_b : Binds K law_steps_d ["pool", "wide", "most"] []
  law_steps_g : mg "_law_steps" = some (.ref law_steps_a)
  law_line_a : Addr
  law_line_d : FuncData
  law_line_F : Fun K "_law_line" "_law_line" s_law_line law_line_a law_line_d
  law_line_b : Binds K law_line_d ["pool", "wide"] []
  law_line_g : mg "_law_line" = some (.ref law_line_a)
  law_blocks_a : Addr
  law_blocks_d : FuncData
  law_blocks_F : Fun K "_law_blocks" "_law_blocks" s_law_blocks law_blocks_a law_blocks_d
  law_blocks_b : Binds K law_blocks_d ["wide", "steps_here"] []
  law_blocks_g : mg "_law_blocks" = some (.ref law_blocks_a)
  law_rising_a : Addr
  law_rising_d : FuncData
  law_rising_F : Fun K "_law_rising" "_law_rising" s_law_rising law_rising_a law_rising_d
  law_rising_b : Binds K law_rising_d ["line_here", "parts"] []
  law_rising_g : mg "_law_rising" = some (.ref law_rising_a)
  law_factorial_a : Addr
  law_factorial_d : FuncData
  law_factorial_F : Fun K "_law_factorial" "_law_factorial" s_law_factorial law_factorial_a law_factorial_d
  law_factorial_b : Binds K law_factorial_d ["many"] []
  law_factorial_g : mg "_law_factorial" = some (.ref law_factorial_a)
  law_changed_right_a : Addr
  law_changed_right_d : FuncData
  law_changed_right_F : Fun K "_law_changed_right" "_law_changed_right" s_law_changed_right law_changed_right_a law_changed_right_d
  law_changed_right_b : Binds K law_changed_right_d ["pool", "steps_here", "parts", "lines_here"] []
  law_changed_right_g : mg "_law_changed_right" = some (.ref law_changed_right_a)
  law_right_a : Addr
  law_right_d : FuncData
  law_right_F : Fun K "_law_right" "_law_right" s_law_right law_right_a law_right_d
  law_right_b : Binds K law_right_d ["pool", "wide"] []
  law_right_g : mg "_law_right" = some (.ref law_right_a)
  law_a : Addr
  law_d : FuncData
  law_F : Fun K "law" "law" s_law law_a law_d
  law_b : Binds K law_d ["script"] []
  law_g : mg "law" = some (.ref law_a)
  m_abs : mg "abs" = none
  m_divmod : mg "divmod" = none
  m_enumerate : mg "enumerate" = none
  m_int : mg "int" = none
  m_len : mg "len" = none
  m_list : mg "list" = none
  m_max : mg "max" = none
  m_min : mg "min" = none
  m_range : mg "range" = none
  m_repr : mg "repr" = none
  m_reversed : mg "reversed" = none
  m_set : mg "set" = none
  m_sorted : mg "sorted" = none
  g_comb : mg "comb" = some (.builtin "math.comb")
section
variable {P : Program} {w : World} {K : PySem.W.Frag} {mg : Str → Option Value} {base : Heap}
open My
theorem at_tab {n k : Nat} {f : Nat → Int} {z : Int} (e : z = (k : Int)) (h : k < n) : atI ((tab n f).map V.int) z = some (.int (f k)) := at_of e (by rw [List.getElem?_map, tab_get h]; rfl)
/-- at as stand rows -/
structure Rws (H : Hp) (as : List Addr) (ls : List (List Int)) : Prop where
  len : as.length = ls.length
  at_ : ∀ (i : Nat) (t : Addr), as[i]? = some t → ∃ l, ls[i]? = some l ∧ H t = some (.lst (l.map V.int))
theorem Rws.same {H H' : Hp} {as : List Addr} {ls : List (List Int)} (h : Rws H as ls) (s : Same H H') : Rws H' as ls :=
  ⟨h.len, fun i t e => let ⟨l, e1, e2⟩ := h.at_ i t e; ⟨l, e1, s _ _ e2⟩⟩
theorem Rws.nil {H : Hp} : Rws H [] [] := ⟨rfl, fun i t e => by simp at e⟩
theorem Rws.app {H : Hp} {ts us : List Addr} {cs ds : List (List Int)} (h : Rws H ts cs) (g : Rws H us ds) : Rws H (ts ++ us) (cs ++ ds) := by
  refine ⟨by rw [List.length_append, List.length_append, h.len, g.len], fun i p e => ?_⟩
  by_cases q : i < ts.length
  · rw [List.getElem?_append_left q] at e
    obtain ⟨c, e1, e2⟩ := h.at_ i p e
    exact ⟨c, by rw [List.getElem?_append_left (h.len ▸ q)]; exact e1, e2⟩
  · rw [List.getElem?_append_right (by omega)] at e
    obtain ⟨c, e1, e2⟩ := g.at_ _ p e
    exact ⟨c, by rw [List.getElem?_append_right (by have := h.len; omega), ← h.len]; exact e1, e2⟩
theorem Rws.one {H : Hp} {t : Addr} {l : List Int} (h : H t = some (.lst (l.map V.int))) : Rws H [t] [l] := ⟨rfl, fun i p e => by
  cases i with
  | zero => cases e; exact ⟨l, rfl, h⟩
  | succ i => simp at e⟩
theorem Rws.idx {H : Hp} {as : List Addr} {ls : List (List Int)} (h : Rws H as ls) {i : Nat} (hi : i < ls.length) : ∃ t, as[i]? = some t ∧ H t = some (.lst (ls[i].map V.int)) := by
  have hi' : i < as.length := by rw [h.len]; exact hi
  obtain ⟨c, e1, e2⟩ := h.at_ i _ (List.getElem?_eq_getElem hi')
  rw [List.getElem?_eq_getElem hi] at e1
  cases e1
  exact ⟨_, List.getElem?_eq_getElem hi', e2⟩
/-- kept if all rows are new and only what was there before, or p, is written -/
theorem Rws.upd_ {H : Hp} {as : List Addr} {ls : List (List Int)} {p : Addr} {o : HO} (h : Rws H as ls) (n : p ∉ as) : Rws (upd H p o) as ls :=
  ⟨h.len, fun i t e => let ⟨l, e1, e2⟩ := h.at_ i t e; ⟨l, e1, upd_to (fun q => n (q ▸ List.mem_of_getElem? e)) e2⟩⟩
open My
/-- at ts stand the commands cs, as tuples -/
structure Cm (H : Hp) (ts : List Addr) (cs : List Cmd) : Prop where
  len : ts.length = cs.length
  at_ : ∀ (i : Nat) (t : Addr), ts[i]? = some t → ∃ c, cs[i]? = some c ∧ H t = some (.tup [.int (c.1 : Nat), .int (c.2 : Nat)])
theorem Cm.same {H H' : Hp} {ts : List Addr} {cs : List Cmd} (h : Cm H ts cs) (s : Same H H') : Cm H' ts cs :=
  ⟨h.len, fun i t e => let ⟨c, e1, e2⟩ := h.at_ i t e; ⟨c, e1, s _ _ e2⟩⟩
theorem Cm.put {H : Hp} {ts : List Addr} {cs : List Cmd} {p : Addr} {xs : List V} {o : HO} (h : Cm H ts cs) (hp : H p = some (.lst xs)) : Cm (upd H p o) ts cs :=
  ⟨h.len, fun i t e => let ⟨c, e1, e2⟩ := h.at_ i t e; ⟨c, e1, upd_to (ne_of e2 hp (by intro z; cases z)) e2⟩⟩
theorem Cm.nil {H : Hp} : Cm H [] [] := ⟨rfl, fun i t e => by simp at e⟩
theorem Cm.snoc {H : Hp} {ts : List Addr} {cs : List Cmd} {t : Addr} {c : Cmd} (h : Cm H ts cs) (e : H t = some (.tup [.int (c.1 : Nat), .int (c.2 : Nat)])) : Cm H (ts ++ [t]) (cs ++ [c]) := by
  refine ⟨by rw [List.length_append, List.length_append, h.len]; rfl, fun i t' e' => ?_⟩
  by_cases q : i < ts.length
  · rw [List.getElem?_append_left q] at e'
    obtain ⟨c', e1, e2⟩ := h.at_ i t' e'
    exact ⟨c', by rw [List.getElem?_append_left (h.len ▸ q)]; exact e1, e2⟩
  · rw [List.getElem?_append_right (by omega)] at e'
    have e3 : i - ts.length = 0 := by
      cases hh : i - ts.length with
      | zero => rfl
      | succ k => rw [hh] at e'; simp at e'
    rw [e3] at e'
    cases e'
    exact ⟨c, by rw [List.getElem?_append_right (by have := h.len; omega), ← h.len, e3]; rfl, e⟩
theorem Cm.idx {H : Hp} {ts : List Addr} {cs : List Cmd} (h : Cm H ts cs) {i : Nat} (hi : i < cs.length) : ∃ t, ts[i]? = some t ∧ H t = some (.tup [.int (cs[i].1 : Nat), .int (cs[i].2 : Nat)]) := by
  have hi' : i < ts.length := by rw [h.len]; exact hi
  obtain ⟨c, e1, e2⟩ := h.at_ i _ (List.getElem?_eq_getElem hi')
  rw [List.getElem?_eq_getElem hi] at e1
  cases e1
  exact ⟨_, List.getElem?_eq_getElem hi', e2⟩
theorem Cm.take {H : Hp} {ts : List Addr} {cs : List Cmd} (h : Cm H ts cs) (k : Nat) : Cm H (ts.take k) (cs.take k) := by
  refine ⟨by rw [List.length_take, List.length_take, h.len], fun i t e => ?_⟩
  rw [List.getElem?_take] at e
  split at e
  · rename_i hk
    obtain ⟨c, e1, e2⟩ := h.at_ i t e
    exact ⟨c, by rw [List.getElem?_take, if_pos hk]; exact e1, e2⟩
  · cases e
theorem Cm.drop {H : Hp} {ts : List Addr} {cs : List Cmd} (h : Cm H ts cs) (k : Nat) : Cm H (ts.drop k) (cs.drop k) := by
  refine ⟨by rw [List.length_drop, List.length_drop, h.len], fun i t e => ?_⟩
  rw [List.getElem?_drop] at e
  obtain ⟨c, e1, e2⟩ := h.at_ _ t e
  exact ⟨c, by rw [List.getElem?_drop]; exact e1, e2⟩
/-! the data of a script -/
def dC1 (c : Cmd) : PyData := .tuple [.int (c.1 : Nat), .int (c.2 : Nat)]
abbrev dC (cs : List Cmd) : PyData := .list (cs.map dC1)
theorem dp_cmAll {K : PySem.W.Frag} {H : Hp} : ∀ {ts : List Addr} {cs : List Cmd}, Cm H ts cs → DpAll K H (ts.map V.ref) (cs.map dC1)
  | [], [], _ => .nil
  | [], _ :: _, h => nomatch h.len
  | _ :: _, [], h => nomatch h.len
  | t :: ts, c :: cs, h => by
    obtain ⟨c', e1, e2⟩ := h.at_ 0 t rfl
    cases e1
    refine .cons (.tup (sqT e2) (.cons (.int _) (.cons (.int _) .nil))) (dp_cmAll ⟨by have := h.len; simpa using this, fun i t' e => ?_⟩)
    exact h.at_ (i + 1) t' e
theorem dp_cm {K : PySem.W.Frag} {H : Hp} {a : Addr} {ts : List Addr} {cs : List Cmd} (h : SqL K H a (ts.map V.ref)) (hc : Cm H ts cs) : Dp K H (.ref a) (dC cs) := .lst h (dp_cmAll hc)
theorem lay_cm : ∀ cs : List Cmd, PyData.canLayAll0 (cs.map dC1) = true
  | [] => rfl
  | _ :: r => lay_cm r
theorem depth_cm : ∀ cs : List Cmd, PyData.depthAll (cs.map dC1) ≤ 1
  | [] => by decide
  | c :: r => by
    have := depth_cm r
    show max 1 (PyData.depthAll (r.map dC1)) ≤ 1
    omega
theorem depth_dC (cs : List Cmd) : (dC cs).depth ≤ 2 := by
  have := depth_cm cs
  show PyData.depthAll (cs.map dC1) + 1 ≤ 2
  omega
theorem shaped_dC (cs : List Cmd) : SeqAt.shaped (dC cs) = true := by
  unfold SeqAt.shaped
  rw [Bool.and_eq_true]
  refine ⟨lay_cm cs, ?_⟩
  have := depth_dC cs
  rw [decide_eq_true_eq]
  omega
theorem shaped_nil : SeqAt.shaped (.list []) = true := rfl
theorem r_neNilC {K : PySem.W.Frag} {H : Hp} {a b : Addr} {ts : List Addr} {cs : List Cmd} {Q : VK} (h : SqL K H a (ts.map V.ref)) (hc : Cm H ts cs) (g : SqL K H b []) (q : Q (.bl (!decide (cs = []))) H) : rNeD K (.ref a) (.ref b) H Q := by
  refine ⟨_, _, dp_cm h hc, .lst g .nil, shaped_dC cs, shaped_nil, ?_⟩
  have e : PyData.eqv (dC cs) (.list []) = decide (cs = []) := by cases cs <;> rfl
  rw [e]; exact q
theorem sh_dC {cs : List Cmd} {n : Nat} (h : ∀ c ∈ cs, c.1 ≤ n ∧ c.2 ≤ n) (hn : n ≤ 100000) : Sh (cs.length * 25 + 2) (dC cs) := by
  have := Sh.list (b := 23) (ds := cs.map dC1) fun d hd => by
    obtain ⟨c, hc, rfl⟩ := List.mem_map.mp hd
    have hb := h c hc
    refine (Sh.tuple (b := 8) fun e he => ?_).mono (by show 2 * (8 + 2) + 3 ≤ 23; decide)
    rcases List.mem_cons.mp he with e1 | e1
    · rw [e1]; exact (Sh.int (k := 7) (by decide) (by omega) (by decide)).mono (by decide)
    · rw [List.mem_singleton.mp e1]; exact (Sh.int (k := 7) (by decide) (by omega) (by decide)).mono (by decide)
  rw [List.length_map] at this
  exact this
def pI (ps : List Nat) : List Int := ps.map fun (k : Nat) => (k : Int)
/-- a row after so many rounds -/
def pwr (ps : List Nat) : Nat → List Int → List Int
  | 0, l => l
  | k + 1, l => pwr ps k (nbs l ps)
theorem pwr_fix {ps : List Nat} {l : List Int} (h : nbs l ps = l) : ∀ k, pwr ps k l = l
  | 0 => rfl
  | k + 1 => by show pwr ps k (nbs l ps) = l; rw [h]; exact pwr_fix h k
def rep (k : Nat) (cs : List Cmd) : List Cmd := (List.replicate k cs).flatten
theorem rep_succ (k : Nat) (cs : List Cmd) : rep (k + 1) cs = cs ++ rep k cs := by unfold rep; rw [List.replicate_succ, List.flatten_cons]
theorem rep_add (j k : Nat) (cs : List Cmd) : rep (j + k) cs = rep j cs ++ rep k cs := by unfold rep; rw [← List.flatten_append, List.replicate_append_replicate]
theorem fits_rep {n : Nat} {cs : List Cmd} (h : Fits n cs) (k : Nat) : Fits n (rep k cs) := fun c hc => by
  obtain ⟨l, h1, h2⟩ := List.mem_flatten.mp hc
  rw [List.eq_of_mem_replicate h1] at h2
  exact h c h2
theorem fits_app {n : Nat} {cs ds : List Cmd} (h : Fits n cs) (g : Fits n ds) : Fits n (cs ++ ds) := fun c hc => by
  rcases List.mem_append.mp hc with z | z
  · exact h c z
  · exact g c z
theorem pwr_run {E : List Int} {ps : List Nat} {cs : List Cmd} (hs : Stand E ps) (hc : Fits E.length cs) (he : runM (desc E.length) cs = E) : ∀ (k : Nat) (l : List Int), l.length = E.length → pwr ps k l = runM l (rep k cs)
  | 0, _, _ => rfl
  | k + 1, l, hl => by
    show pwr ps k (nbs l ps) = _
    rw [stand_run hs hl hc he, pwr_run hs hc he k _ (by rw [runM_len (by rw [hl]; exact hc)]; exact hl), rep_succ, runM_app]
theorem Cm.app {H : Hp} {ts us : List Addr} {cs ds : List Cmd} (h : Cm H ts cs) (g : Cm H us ds) : Cm H (ts ++ us) (cs ++ ds) := by
  refine ⟨by rw [List.length_append, List.length_append, h.len, g.len], fun i p e => ?_⟩
  by_cases q : i < ts.length
  · rw [List.getElem?_append_left q] at e
    obtain ⟨c, e1, e2⟩ := h.at_ i p e
    exact ⟨c, by rw [List.getElem?_append_left (h.len ▸ q)]; exact e1, e2⟩
  · rw [List.getElem?_append_right (by omega)] at e
    obtain ⟨c, e1, e2⟩ := g.at_ _ p e
    exact ⟨c, by rw [List.getElem?_append_right (by have := h.len; omega), ← h.len]; exact e1, e2⟩
theorem Cm.reps {H : Hp} {ts : List Addr} {cs : List Cmd} (h : Cm H ts cs) : ∀ k : Nat, Cm H (List.replicate k ts).flatten (rep k cs)
  | 0 => Cm.nil
  | k + 1 => by rw [List.replicate_succ, List.flatten_cons, rep_succ]; exact h.app (Cm.reps h k)
theorem pI_len (ps : List Nat) : (pI ps).length = ps.length := by simp [pI]
theorem eqv_cs : ∀ cs ds : List Cmd, PyData.eqvAll (cs.map dC1) (ds.map dC1) = decide (cs = ds)
  | [], [] => rfl
  | [], _ :: _ => rfl
  | _ :: _, [] => rfl
  | c :: r, d :: t => by
    show (((((c.1 : Nat) : Int) == ((d.1 : Nat) : Int)) && ((((c.2 : Nat) : Int) == ((d.2 : Nat) : Int)) && true)) && PyData.eqvAll (r.map dC1) (t.map dC1)) = _
    rw [eqv_cs r t]
    obtain ⟨a, b⟩ := c
    obtain ⟨a', b'⟩ := d
    by_cases e : a = a' <;> by_cases g : b = b' <;> by_cases f : r = t <;> simp [e, g, f] <;> omega
theorem r_eqCs {K : PySem.W.Frag} {H : Hp} {a b : Addr} {ts us : List Addr} {cs ds : List Cmd} {Q : VK} (h : SqL K H a (ts.map V.ref)) (hc : Cm H ts cs) (g : SqL K H b (us.map V.ref)) (gc : Cm H us ds) (q : Q (.bl (decide (cs = ds))) H) : rEqD K (.ref a) (.ref b) H Q :=
  ⟨_, _, dp_cm h hc, dp_cm g gc, shaped_dC cs, shaped_dC ds, by rw [show PyData.eqv (dC cs) (dC ds) = decide (cs = ds) from eqv_cs cs ds]; exact q⟩
theorem r_neCs {K : PySem.W.Frag} {H : Hp} {a b : Addr} {ts us : List Addr} {cs ds : List Cmd} {Q : VK} (h : SqL K H a (ts.map V.ref)) (hc : Cm H ts cs) (g : SqL K H b (us.map V.ref)) (gc : Cm H us ds) (q : Q (.bl (!decide (cs = ds))) H) : rNeD K (.ref a) (.ref b) H Q :=
  ⟨_, _, dp_cm h hc, dp_cm g gc, shaped_dC cs, shaped_dC ds, by rw [show PyData.eqv (dC cs) (dC ds) = decide (cs = ds) from eqv_cs cs ds]; exact q⟩
section keep
variable {K : PySem.W.Frag} {H H' H1 : Hp} {Q : VK} {a b p r g : Addr} {o : HO} {ns : List Int} {m : Nat}
theorem n_sorted (h : SqL K H a (ns.map V.int)) (q : New Q H (.lst ((srt ns).map V.int))) : rSortedI K [.ref a] H Q := ⟨a, ns, rfl, h, fun ns' p hp hu np => by
  have e := srt_is hp hu
  subst e
  exact q p np⟩
theorem Rws.row {as : List Addr} {ls : List (List Int)} (h : Rws H as ls) {i : Nat} {t : Addr} {l : List Int} (e : as[i]? = some t) (g : ls[i]? = some l) : H t = some (.lst (l.map V.int)) := by
  obtain ⟨l', e1, e2⟩ := h.at_ i t e
  rw [g] at e1; cases e1; exact e2
theorem n_reprC {ts : List Addr} {cs : List Cmd} {n : Nat} (h : SqL K H a (ts.map V.ref)) (hc : Cm H ts cs) (hf : Fits n cs) (hn : n ≤ 100000) (hl : cs.length ≤ 600000) (q : Q (.str (dC cs).shown) H) : rReprD K [.ref a] H Q :=
  r_repr (d := dC cs) (dp_cm h hc) (Nat.le_trans (depth_dC cs) (by decide)) (sh_dC (n := n) (fun c hc => by have := hf c hc; omega) hn) (by omega) q
/-- rows written one by one into a new list -/
def RwI (H1 : Hp) (D : Addr) (ms : List (List Int)) (i : Nat) (H : Hp) : Prop := ∃ es : List Addr, es.length = i ∧ H D = some (.lst (es.map V.ref)) ∧ Same H1 H ∧ (∀ t ∈ es, H1 t = none ∧ t ≠ D) ∧ Rws H es (ms.take i)
theorem rwi_nil {D : Addr} {ms : List (List Int)} (nD : H1 D = none) : RwI H1 D ms 0 (upd H1 D (.lst [])) := ⟨[], rfl, upd_same, same_new nD, (fun t ht => by cases ht), Rws.nil⟩
theorem rwi_put {D : Addr} {ms : List (List Int)} {i : Nat} {l : List Int} (h : RwI H1 D ms i H) (nD : H1 D = none) (hl : ms[i]? = some l) (hi : i ≤ 100000) (s : Same H H') (n : H p = none) (hp : H' p = some (.lst (l.map V.int))) :
    ∃ acc, H' D = some (.lst acc) ∧ acc.length < sizeLine ∧ RwI H1 D ms (i + 1) (upd H' D (.lst (acc ++ [.ref p]))) := by
  obtain ⟨es, hel, hD, sk, hfe, hE⟩ := h
  have hi' : i < ms.length := (List.getElem?_eq_some_iff.mp hl).1
  have ei : ms[i] = l := (List.getElem?_eq_some_iff.mp hl).2
  have n5 := sk.free n
  have h5D : p ≠ D := (ne_of_none hD n).symm
  refine ⟨_, s _ _ hD, by rw [List.length_map, hel]; exact size_lt (by omega), es ++ [p], by rw [List.length_append, hel]; rfl, by rw [upd_same]; simp, same_old (sk.trans s) nD, fun t ht => ?_, ?_⟩
  · rcases List.mem_append.mp ht with z | z
    · exact hfe t z
    · rw [List.mem_singleton.mp z]; exact ⟨n5, h5D⟩
  · rw [take_one hi', ei]
    refine (Rws.app (hE.same s) (Rws.one hp)).upd_ fun hm => ?_
    rcases List.mem_append.mp hm with z | z
    · exact (hfe _ z).2 rfl
    · exact h5D (List.mem_singleton.mp z).symm
theorem rwi_end {D : Addr} {ms : List (List Int)} {n : Nat} (h : RwI H1 D ms n H) (e : n = ms.length) : ∃ es : List Addr, H D = some (.lst (es.map V.ref)) ∧ Same H1 H ∧ (∀ t ∈ es, H1 t = none) ∧ Rws H es ms := by
  obtain ⟨es, hel, hD, sk, hfe, hE⟩ := h
  rw [e, List.take_of_length_le (Nat.le_refl _)] at hE
  exact ⟨es, hD, sk, fun t ht => (hfe t ht).1, hE⟩
theorem cm_same {ts : List Addr} {cs : List Cmd} (s : Same H H') (h : Cm H ts cs) : Cm H' ts cs := h.same s
theorem rws_same {as : List Addr} {ls : List (List Int)} (s : Same H H') (h : Rws H as ls) : Rws H' as ls := h.same s
theorem cm_new {ts : List Addr} {cs : List Cmd} (np : H a = none) (h : Cm H ts cs) : Cm (upd H a o) ts cs := h.same (same_new np)
theorem rws_new {as : List Addr} {ls : List (List Int)} (np : H a = none) (h : Rws H as ls) : Rws (upd H a o) as ls := h.same (same_new np)
/-- commands written one by one into a new list -/
def CmI (H1 : Hp) (D : Addr) (ds : List Cmd) (i : Nat) (H : Hp) : Prop := ∃ es : List Addr, es.length = i ∧ H D = some (.lst (es.map V.ref)) ∧ Same H1 H ∧ (∀ t ∈ es, H1 t = none ∧ t ≠ D) ∧ Cm H es (ds.take i)
theorem cmi_nil {D : Addr} {ds : List Cmd} (nD : H1 D = none) : CmI H1 D ds 0 (upd H1 D (.lst [])) := ⟨[], rfl, upd_same, same_new nD, (fun t ht => by cases ht), Cm.nil⟩
theorem cmi_put {D : Addr} {ds : List Cmd} {i : Nat} {c : Cmd} (h : CmI H1 D ds i H) (nD : H1 D = none) (hl : ds[i]? = some c) (hi : i ≤ 100000) (s : Same H H') (n : H p = none) (hp : H' p = some (.tup [.int (c.1 : Nat), .int (c.2 : Nat)])) :
    ∃ acc, H' D = some (.lst acc) ∧ acc.length < sizeLine ∧ CmI H1 D ds (i + 1) (upd H' D (.lst (acc ++ [.ref p]))) := by
  obtain ⟨es, hel, hD, sk, hfe, hE⟩ := h
  have hi' : i < ds.length := (List.getElem?_eq_some_iff.mp hl).1
  have ei : ds[i] = c := (List.getElem?_eq_some_iff.mp hl).2
  have n5 := sk.free n
  have h5D : p ≠ D := (ne_of_none hD n).symm
  refine ⟨_, s _ _ hD, by rw [List.length_map, hel]; exact size_lt (by omega), es ++ [p], by rw [List.length_append, hel]; rfl, by rw [upd_same]; simp, same_old (sk.trans s) nD, fun t ht => ?_, ?_⟩
  · rcases List.mem_append.mp ht with z | z
    · exact hfe t z
    · rw [List.mem_singleton.mp z]; exact ⟨n5, h5D⟩
  · rw [take_one hi', ei]
    exact ((hE.same s).snoc hp).put (s _ _ hD)
theorem cmi_end {D : Addr} {ds : List Cmd} {n : Nat} (h : CmI H1 D ds n H) (e : n = ds.length) : ∃ es : List Addr, H D = some (.lst (es.map V.ref)) ∧ Same H1 H ∧ (∀ t ∈ es, H1 t = none) ∧ Cm H es ds := by
  obtain ⟨es, hel, hD, sk, hfe, hE⟩ := h
  rw [e, List.take_of_length_le (Nat.le_refl _)] at hE
  exact ⟨es, hD, sk, fun t ht => (hfe t ht).1, hE⟩
theorem last_at {as : List Addr} {t : Addr} : atI ((as ++ [t]).map V.ref) (-1) = some (.ref t) := by
  unfold atI ixN
  rw [if_neg (by omega), if_pos (by rw [List.length_map, List.length_append]; simp only [List.length_singleton]; omega)]
  show ((as ++ [t]).map V.ref)[((-1 : Int) + ((as ++ [t]).map V.ref).length).toNat]? = _
  rw [show ((-1 : Int) + (((as ++ [t]).map V.ref).length : Nat)).toNat = as.length by simp; omega]
  simp
theorem last_ix {as : List Addr} {t : Addr} : ixN ((as ++ [t]).map V.ref).length (-1) = some as.length := by
  unfold ixN
  rw [if_neg (by omega), if_pos (by rw [List.length_map, List.length_append]; simp only [List.length_singleton]; omega)]
  exact congrArg some (by simp; omega)
theorem last_set {as : List Addr} {t u : Addr} : ((as ++ [t]).map V.ref).set as.length (.ref u) = (as ++ [u]).map V.ref := by simp
end keep
local macro_rules | `(tactic| fail "kp") => `(tactic| with_reducible first
  | (apply cm_same; assumption; fail "kp")
  | (apply rws_same; assumption; fail "kp")
  | (apply cm_new; assumption; fail "kp")
  | (apply rws_new; assumption; fail "kp"))
/-- it stood not before -/
local macro_rules | `(tactic| fail "kpz") => `(tactic| with_reducible first
  | assumption
  | (apply L2.Same.free; assumption; fail "kpz"))
/-- the pool of draws: [great, seed, turn] -/
def Pol (H : Hp) (r : Addr) (m : Nat) : Prop := ∃ a b c : Int, H r = some (.lst [.int a, .int b, .int c]) ∧ 0 ≤ a ∧ 0 ≤ b ∧ b < 2 ^ 62 ∧ 0 ≤ c ∧ c ≤ m
section keepC
variable {K : PySem.W.Frag} {H H' H0 : Hp} {r p b a : Addr} {m : Nat} {o : HO}
theorem Pol.same (h : Pol H r m) (s : Same H H') : Pol H' r m := by
  obtain ⟨a, b, c, h1, h2⟩ := h
  exact ⟨a, b, c, s _ _ h1, h2⟩
theorem Pol.le {n : Nat} (h : Pol H r m) (e : m ≤ n) : Pol H r n := by
  obtain ⟨a, b, c, h1, h2, h3, h4, h5, h6⟩ := h
  exact ⟨a, b, c, h1, h2, h3, h4, h5, by omega⟩
theorem Pol.ne (h : Pol H r m) (n : H p = none) : p ≠ r := by
  obtain ⟨a, b, c, h1, h2⟩ := h
  exact (ne_of_none h1 n).symm
theorem Pol.free (h : Pol H' r m) (s : Sx r H H') (n : H' p = none) : H p = none := by
  obtain ⟨a, b, c, h1, h2⟩ := h
  exact s.free h1 n
theorem Pol.other (h : Pol H r m) (n : p ≠ r) : Pol (upd H p o) r m := by
  obtain ⟨a, b, c, h1, h2⟩ := h
  exact ⟨a, b, c, upd_to n.symm h1, h2⟩
theorem pol_n (n : H p = none) (h : Pol H r m) : p ≠ r := h.ne n
theorem pol_same (s : Same H H') (h : Pol H r m) : Pol H' r m := h.same s
theorem pol_new (np : H p = none) (h : Pol H r m) : Pol (upd H p o) r m := h.same (same_new np)
theorem pol_free (s : Sx r H H') (n : H' p = none) (h : Pol H' r m) : H p = none := h.free s n
theorem cm_sx {ts : List Addr} {cs : List Cmd} (s : Sx r H H') (hR : Pol H r m) (h : Cm H ts cs) : Cm H' ts cs := by
  obtain ⟨a, b, c, hr, _⟩ := hR
  exact ⟨h.len, fun i t e => let ⟨c, e1, e2⟩ := h.at_ i t e; ⟨c, e1, s _ _ (ne_of e2 hr (by intro z; cases z)) e2⟩⟩
theorem rws_sx {as : List Addr} {ls : List (List Int)} (s : Sx r H H') (n : ∀ t ∈ as, t ≠ r) (h : Rws H as ls) : Rws H' as ls :=
  ⟨h.len, fun i t e => let ⟨l, e1, e2⟩ := h.at_ i t e; ⟨l, e1, s _ _ (n t (List.mem_of_getElem? e)) e2⟩⟩
theorem sx_same (t : Same H H') (s : Sx r H0 H) : Sx r H0 H' := s.same t
theorem sx_trans (t : Sx r H H') (s : Sx r H0 H) : Sx r H0 H' := s.trans t
theorem sx_new (np : H p = none) (s : Sx r H0 H) : Sx r H0 (upd H p o) := s.same (same_new np)
end keepC
local macro_rules | `(tactic| fail "kp") => `(tactic| with_reducible first
  | (apply cm_sx; assumption; fail "kp"; fail "kp")
  | (apply rws_sx; assumption; assumption; fail "kp")
  | (apply pol_same; assumption; fail "kp")
  | exact Sx.refl
  | (apply pol_new; assumption; fail "kp")
  | (apply sx_new; assumption; fail "kp")
  | (apply sx_same; assumption; fail "kp")
  | (apply sx_trans; assumption; fail "kp"))
local macro_rules | `(tactic| fail "kpn") => `(tactic| (with_reducible apply pol_n; assumption; fail "kp"))
local macro_rules | `(tactic| fail "kpz") => `(tactic| (with_reducible apply pol_free; assumption; fail "kpz"; fail "kp"))
open My
theorem rep_one (cs : List Cmd) : rep 1 cs = cs := by unfold rep; simp
theorem run_rep_succ (l : List Int) (k : Nat) (cs : List Cmd) : runM l (rep (k + 1) cs) = runM (runM l (rep k cs)) cs := by rw [rep_add, runM_app, rep_one]
theorem run_rep_fix {l : List Int} {cs : List Cmd} (h : runM l cs = l) : ∀ k, runM l (rep k cs) = l
  | 0 => rfl
  | k + 1 => by rw [run_rep_succ, run_rep_fix h k, h]
theorem rep_fits_len {n : Nat} {cs : List Cmd} (h : Fits n cs) (k : Nat) : (runM (desc n) (rep k cs)).length = n := by
  rw [runM_len (by rw [desc_len]; exact fits_rep h k), desc_len]
local macro_rules | `(tactic| fail "one") => `(tactic| with_reducible first | refine Xk.r_iRev ?_)
def witV (l : List Int) : V := match witM l with
  | none => .non
  | some x => .int x
theorem mulM_le : ∀ (ks : List Nat) {m : Nat}, ks.sum ≤ m → mulM ks m ≤ 2 ^ (m * ks.length)
  | [], m, _ => Nat.one_le_two_pow
  | k :: ks, m, h => by
    rw [List.sum_cons] at h
    have h1 := cmb_le m k
    have h2 := mulM_le ks (m := m - k) (by omega)
    have h3 : 2 ^ ((m - k) * ks.length) ≤ 2 ^ (m * ks.length) := Nat.pow_le_pow_right (by decide) (Nat.mul_le_mul_right _ (by omega))
    show cmb m k * mulM ks (m - k) ≤ _
    rw [List.length_cons, Nat.mul_succ, Nat.pow_add, Nat.mul_comm]
    exact Nat.mul_le_mul (Nat.le_trans h2 h3) h1
theorem r_nT {A B : Prop} (h : A) : if (if true then !false else false) = true then A else B := by simpa using h
theorem r_nF {A B : Prop} (h : B) : if (if true then !true else true) = true then A else B := by simpa using h
theorem fac_le : ∀ {m : Nat}, m ≤ 128 → fac m ≤ 2 ^ (7 * m)
  | 0, _ => Nat.le_refl _
  | m + 1, h => by
    have ih := fac_le (m := m) (by omega)
    show (m + 1) * fac m ≤ _
    rw [Nat.mul_succ, Nat.pow_add, Nat.mul_comm]
    exact Nat.mul_le_mul ih (show m + 1 ≤ 2 ^ 7 by show m + 1 ≤ 128; omega)
theorem mulM_fac : ∀ (ks : List Nat) {m : Nat}, ks.sum ≤ m → mulM ks m ≤ fac m
  | [], m, _ => fac_pos m
  | k :: ks, m, h => by
    rw [List.sum_cons] at h
    have ih := mulM_fac ks (m := m - k) (by omega)
    have e := cmb_fac (m - k) k
    rw [show m - k + k = m by omega] at e
    show cmb m k * mulM ks (m - k) ≤ _
    rw [← e]
    refine Nat.mul_le_mul_left _ (Nat.le_trans ih ?_)
    have := Nat.mul_le_mul_right (fac (m - k)) (fac_pos k)
    rw [Nat.succ_mul, Nat.zero_mul, Nat.zero_add] at this
    exact this
theorem mulM_700 {ks : List Nat} {m : Nat} (h : ks.sum ≤ m) (hm : m ≤ 100) : mulM ks m ≤ 2 ^ 700 :=
  Nat.le_trans (mulM_fac ks h) (Nat.le_trans (fac_le (by omega)) (Nat.pow_le_pow_right (by decide) (by omega)))
theorem nat_bound {a b : Nat} (h : a ≤ 2 ^ b) : ((a : Nat) : Int).natAbs < 2 ^ (b + 1) := by
  show a < 2 ^ (b + 1)
  rw [Nat.pow_succ]; have := Nat.one_le_two_pow (n := b); omega
theorem rep_mem {c : Cmd} {cs : List Cmd} {k : Nat} (h : c ∈ rep k cs) : c ∈ cs := by
  unfold rep at h
  obtain ⟨L, hL, hc⟩ := List.mem_flatten.mp h
  rw [(List.mem_replicate.mp hL).2] at hc; exact hc
theorem stab_blk {n k : Nat} {cs : List Cmd} (hf : Fits n cs) (hn : 1 ≤ n) (h : runM (runM (desc n) (rep k cs)) cs = runM (desc n) (rep k cs)) : runM (desc n) (rep k cs) = runM (desc n) (blkM n cs) := by
  have hd := desc_len n
  have hb := (blkM_ok hf hn).1
  have hfb : Fits n (blkM n cs) := tile_fits hb (Nat.le_refl _) (Nat.le_refl _)
  have l1 : (runM (desc n) (rep k cs)).length = n := rep_fits_len hf k
  have l2 : (runM (desc n) (blkM n cs)).length = n := by rw [runM_len (by rw [hd]; exact hfb), hd]
  have off1 : ∀ t p, lnk cs p = false → zc (runM (desc n) (rep k cs)) t p = zc (desc n) t p := fun t p hp =>
    zc_off t _ _ (by rw [hd]; exact fits_rep hf k) fun c hc => lnk_off hp c (rep_mem hc)
  refine zc_ext (l1.trans l2.symm) fun t p hp => ?_
  rw [l1] at hp
  cases hl : lnk cs p with
  | false => rw [off1 t p hl, zc_off t _ _ (by rw [hd]; exact hfb) (blk_off hf hn hl)]
  | true =>
    obtain ⟨c0, hc0, g1, g2⟩ := lnk_iff.mp hl
    have hc0' := hf c0 hc0
    obtain ⟨c, hc, e1, e2⟩ := tile_mem hb (show 1 ≤ p by omega) (by omega)
    have hcc := hfb c hc
    have hbc := (blkM_ok hf hn).2 c hc
    have e3 : p < c.2 := by
      rcases Nat.lt_or_ge p c.2 with g | g
      · exact g
      · rw [show p = c.2 by omega, hbc.1] at hl; cases hl
    have hlow : lnk cs (c.1 - 1) = false := by
      cases q : lnk cs (c.1 - 1) with
      | false => rfl
      | true =>
        obtain ⟨c1, hc1, k1, k2⟩ := lnk_iff.mp q
        have hc1' := hf c1 hc1
        obtain ⟨b, hb', m1, m2⟩ := tile_mem hb (show 1 ≤ c.1 - 1 by omega) (by omega)
        have hbb := (blkM_ok hf hn).2 b hb'
        rcases Nat.lt_or_ge (c.1 - 1) b.2 with m3 | m3
        · exfalso
          -- two blocks that overlap
          have : ∀ {bs : List Cmd} {s e : Nat}, Tile s bs e → ∀ x ∈ bs, ∀ y ∈ bs, x.1 ≤ y.1 - 1 → 1 ≤ y.1 → y.1 ≤ y.2 → x.2 ≤ y.1 - 1 := by
            intro bs
            induction bs with
            | nil => intro s e _ x hx; cases hx
            | cons d r ih =>
              intro s e ht x hx y hy a1 a2 a3
              have hle := tile_le ht.2.2
              rcases List.mem_cons.mp hx with u | u
              · rcases List.mem_cons.mp hy with v | v
                · rw [u, v] at a1; rw [v] at a2; omega
                · have := hle.2 y v; rw [u]; omega
              · rcases List.mem_cons.mp hy with v | v
                · have := hle.2 x u; rw [v] at a1; have := ht.1; have := ht.2.1; omega
                · exact ih ht.2.2 x u y v a1 a2 a3
          have := this hb b hb' c hc m1 hcc.1 hcc.2.1
          omega
        · rw [show c.1 - 1 = b.2 by omega, hbb.1] at q; cases q
    rw [tile_zc t hb (Nat.le_refl _) (by rw [hd]; exact Nat.le_refl _) c hc p e1 e3]
    have hfix : step (runM (desc n) (rep k cs)) c = runM (desc n) (rep k cs) :=
      (step_fix hcc.1 hcc.2.1 (by rw [l1]; exact hcc.2.2)).mpr fun q q1 q2 => (fix_rise hf hn l1).mp h c hc q q1 q2
    have : zc (runM (desc n) (rep k cs)) t p = zc (seg (runM (desc n) (rep k cs)) c.1 c.2) t p := by
      show _ = zc (step (runM (desc n) (rep k cs)) c) t p
      rw [hfix]
    rw [this, zc_seg hcc.1 hcc.2.1 (by rw [l1]; exact hcc.2.2), if_neg (by omega), off1 t _ hlow, off1 t _ hbc.1]
theorem erase_mapI {α β : Type} (f : α → β) (l : List α) (k : Nat) : (l.map f).eraseIdx k = (l.eraseIdx k).map f := by
  refine List.ext_getElem? fun i => ?_
  simp only [List.getElem?_eraseIdx, List.getElem?_map]
  split <;> rfl
theorem erase_permI {α : Type} : ∀ (l : List α) (k : Nat) (h : k < l.length), (l[k] :: l.eraseIdx k).Perm l
  | a :: r, 0, _ => List.Perm.refl _
  | a :: r, k + 1, h => by
    have := erase_permI r k (by simpa using h)
    exact (List.Perm.swap _ _ _).trans (this.cons a)
theorem rg_upTo (n : Nat) : rgV 1 ((n : Int) + 1) = (ascN n).map V.int := by
  unfold rgV ascN
  rw [List.map_map, show ((n : Int) + 1 - 1).toNat = n by omega]
  rfl
theorem r_mulF {H : Hp} {j : Nat} {Q : VK} (hj : j ≤ 110) (q : Q (.int ((fac (1 + (j + 1)) : Nat) : Int)) H) : rI CMulW (fun i j => V.int (i * j)) (V.int ((fac (1 + j) : Nat) : Int)) (V.int (2 + (j : Int))) H Q := by
  have hb : fac (1 + j) ≤ 2 ^ 800 := Nat.le_trans (fac_le (by omega)) (Nat.pow_le_pow_right (by decide) (by omega))
  refine ⟨_, _, rfl, rfl, wide_mul (a := 801) (b := 40) (nat_bound hb) (by omega) (by decide) (by decide) (by decide), ?_⟩
  have e : ((fac (1 + (j + 1)) : Nat) : Int) = ((fac (1 + j) : Nat) : Int) * (2 + (j : Int)) := by
    show (((1 + j + 1) * fac (1 + j) : Nat) : Int) = _
    rw [Int.natCast_mul, Int.mul_comm]; congr 1; omega
  rw [e] at q
  exact q
theorem eqv_rws : ∀ as bs : List (List Int), PyData.eqvAll (as.map fun x => dI x) (bs.map fun x => dI x) = decide (as = bs)
  | [], [] => rfl
  | [], _ :: _ => rfl
  | _ :: _, [] => rfl
  | x :: r, y :: t => by
    show (PyData.eqv (dI x) (dI y) && PyData.eqvAll (r.map fun x => dI x) (t.map fun x => dI x)) = _
    rw [eqv_rws r t, eqv_dI]
    by_cases e : x = y <;> by_cases f : r = t <;> simp [e, f]
theorem dp_rowsAll {K : PySem.W.Frag} {H : Hp} : ∀ {as : List Addr} {ls : List (List Int)}, Rws H as ls → DpAll K H (as.map V.ref) (ls.map fun x => dI x)
  | [], [], _ => .nil
  | [], _ :: _, h => nomatch h.len
  | _ :: _, [], h => nomatch h.len
  | t :: as, l :: ls, h => by
    obtain ⟨c', e1, e2⟩ := h.at_ 0 t rfl
    cases e1
    exact .cons (dp_lst (sq e2)) (dp_rowsAll ⟨by have := h.len; simpa using this, fun i t' e => h.at_ (i + 1) t' e⟩)
theorem lay_rws : ∀ ls : List (List Int), PyData.canLayAll0 (ls.map fun x => dI x) = true
  | [] => rfl
  | l :: r => by
    show (PyData.canLayAll0 (l.map PyData.int) && PyData.canLayAll0 (r.map fun x => dI x)) = true
    rw [lay_ints, lay_rws r]; rfl
theorem depth_rws : ∀ ls : List (List Int), PyData.depthAll (ls.map fun x => dI x) ≤ 1
  | [] => Nat.zero_le _
  | l :: r => by
    show max (PyData.depthAll (l.map PyData.int) + 1) (PyData.depthAll (r.map fun x => dI x)) ≤ 1
    have := depth_rws r
    rw [depth_ints]; omega
theorem shaped_rws (ls : List (List Int)) : SeqAt.shaped (.list (ls.map fun x => dI x)) = true := by
  unfold SeqAt.shaped
  rw [Bool.and_eq_true]
  refine ⟨lay_rws ls, ?_⟩
  have := depth_rws ls
  show decide (PyData.depthAll (ls.map fun x => dI x) + 1 ≤ 64) = true
  rw [decide_eq_true_eq]; omega
theorem r_neRw {K : PySem.W.Frag} {H : Hp} {Q : VK} {a b : Addr} {as bs : List Addr} {ls ms : List (List Int)} (h : SqL K H a (as.map V.ref)) (ha : Rws H as ls) (g : SqL K H b (bs.map V.ref)) (hb : Rws H bs ms) (q : Q (.bl (!decide (ls = ms))) H) : rNeD K (.ref a) (.ref b) H Q :=
  ⟨_, _, .lst h (dp_rowsAll ha), .lst g (dp_rowsAll hb), shaped_rws ls, shaped_rws ms, by rw [show PyData.eqv (.list (ls.map fun x => dI x)) (.list (ms.map fun x => dI x)) = decide (ls = ms) from eqv_rws ls ms]; exact q⟩
theorem lexI_of : ∀ {l m : List Int}, lexL l m → lexI l m
  | x :: r, y :: t, h => h.imp id fun g => ⟨g.1, lexI_of g.2⟩
theorem r_sortRw {K : PySem.W.Frag} {H : Hp} {Q : VK} {a : Addr} {as : List Addr} {ls : List (List Int)} (h : SqL K H a (as.map V.ref)) (ha : Rws H as ls) (hp : ls.Pairwise fun l m => l = m ∨ lexL l m) (q : New Q H (.lst (as.map V.ref))) : rSortRw K [.ref a] H Q :=
  ⟨a, _, ls, rfl, h, dp_rowsAll ha, hp.imp fun g => g.imp id lexI_of, fun p np => q p np⟩
theorem first_ix {x : Int} : ∀ {l : List Int}, x ∈ l → ∃ j : Nat, l[j]? = some x ∧ ∀ (m : Nat) (z : Int), m < j → l[m]? = some z → z ≠ x
  | [], h => by cases h
  | y :: r, h => by
    by_cases e : y = x
    · exact ⟨0, by rw [e]; rfl, fun m z hm => absurd hm (Nat.not_lt_zero _)⟩
    · obtain ⟨j, e1, e2⟩ := first_ix (l := r) ((List.mem_cons.mp h).resolve_left fun z => e z.symm)
      refine ⟨j + 1, e1, fun m z hm ez => ?_⟩
      cases m with
      | zero => cases ez; exact e
      | succ m => exact e2 m z (by omega) ez
def risB (bs : List Cmd) (l : List Int) : Bool := bs.all fun c => decide (((l.drop (c.1 - 1)).take (c.2 - (c.1 - 1))).Pairwise (· ≤ ·))
theorem ris_iff {n : Nat} {cs : List Cmd} {l : List Int} (hf : Fits n cs) (hn : 1 ≤ n) (hl : l.length = n) : risB (blkM n cs) l = decide (runM l cs = l) := by
  have hb := (tile_le (blkM_ok hf hn).1).2
  rw [Bool.eq_iff_iff, decide_eq_true_iff, fix_rise hf hn hl]
  unfold risB
  rw [List.all_eq_true]
  constructor
  · intro h c hc
    have h1 := hb c hc
    exact (str_adj (by omega) (by omega)).mp (of_decide_eq_true (h c hc))
  · intro h c hc
    have h1 := hb c hc
    exact decide_eq_true ((str_adj (by omega) (by omega)).mpr (h c hc))
theorem srt_iff {l : List Int} : l = srt l ↔ l.Pairwise (· ≤ ·) := ⟨fun h => by rw [h]; exact srt_up l, fun h => (srt_id h).symm⟩
def sp_check_size (K : PySem.W.Frag) : Sp := fun vs H Q _ => ∃ (n : Nat), vs = [.int n] ∧ 1 ≤ n ∧ Q .non H
theorem ok_check_size (T : Txt K mg) : FnG P w K mg base CX0 1 T.check_size_a T.check_size_d ["size"] (sp_check_size K) := by
  refine okG T.check_size_F sc_check_size (fun vs H Q E h => ?_) (fun cdv A ou t H vs Q E hG hr h => ?_)
  · obtain ⟨_, rfl, _⟩ := h; rfl
  have nd := sc_check_size.nd
  obtain ⟨n, rfl, hn, q⟩ := h
  refine ⟨_, (pss_one (ps_if (pt_cmpR op_lt (pv 0) pe_int (nomark _))
        (pss_one ps_never)
        pss_nil)), ?_⟩
  fail "g"
  refine r_itDF (by omega) ?_
  fail "g"
  exact q
def sp_check_script (K : PySem.W.Frag) : Sp := fun vs H Q _ => ∃ (n : Nat) (b : Addr) (ts : List Addr) (cs : List Cmd), vs = [.int n, .ref b] ∧ SqL K H b (ts.map V.ref) ∧ Cm H ts cs ∧ Fits n cs ∧ ∀ H', Same H H' → Q .non H'
theorem ok_check_script (T : Txt K mg) : FnG P w K mg base CX0 1 T.check_script_a T.check_script_d ["size", "commands"] (sp_check_script K) := by
  refine okG T.check_script_F sc_check_script (fun vs H Q E h => ?_) (fun cdv A ou t H vs Q E hG hr h => ?_)
  · obtain ⟨_, _, _, _, rfl, _⟩ := h; rfl
  have nd := sc_check_script.nd
  obtain ⟨n, b, ts, cs, rfl, hS, hC, hF, q⟩ := h
  refine ⟨_, (pss_one (ps_for PassesOwn.never rfl (pi_enumK K (by rfl) T.m_enumerate (pa_cons (pv 1) pa_nil)) (pg_tupK K 2 rfl (pgs_cons (gset 2 nd) (pgs_cons (pg_tupK K 2 rfl (pgs_cons (gset 3 nd) (pgs_cons (gset 4 nd) pgs_nil))) pgs_nil)))
        (pss_one (ps_if (PW.pt (pw_or (pt_cmpR op_lt (pv 3) pe_int (nomark _)) (pw_or (pt_cmpR op_lt (pv 4) (pv 3) (nomark _)) (pw_or1 (pt_cmpR op_gt (pv 4) (pv 0) (nomark _))))))
        (pss_one ps_never)
        pss_nil)))), ?_⟩
  fail "g"
  refine forP (walk_enum (xs := ts.map V.ref)) (fun i σ' H' => ∃ y2 y3 y4, σ' = [some (.int n), some (.ref b), y2, y3, y4] ∧ Same H H') ⟨none, none, none, rfl, Same.refl H⟩ (fun i σ' H' _ p => ?_) (fun i σ' H' T1 x y hi p e1 e2 nT => ?_) (fun σ' H' p => ?_)
  · obtain ⟨_, _, _, _, s⟩ := p; exact s.seq hS
  · obtain ⟨y2, y3, y4, rfl, s⟩ := p
    cases e1
    have hi' : i < cs.length := by rw [← hC.len]; simpa using hi
    obtain ⟨t0, et, ht⟩ := hC.idx hi'
    simp only [List.getElem?_map, et] at e2
    cases e2
    have hc := hF cs[i] (List.getElem_mem hi')
    have s1 := s.trans (same_new (o := .tup [.int (i : Nat), .ref t0]) nT)
    have ht1 := s1 _ _ ht
    fail "g"
    refine r_itDF (by omega) ?_
    fail "g"
    refine r_itDF (by omega) ?_
    fail "g"
    refine r_itDF (by omega) ?_
    fail "g"
    exact ⟨_, _, _, rfl, s1⟩
  · obtain ⟨y2, y3, y4, rfl, s⟩ := p
    fail "g"
    exact q _ s
def sp_check_arrangement (K : PySem.W.Frag) : Sp := fun vs H Q _ => ∃ (a : Addr) (ns : List Int), vs = [.ref a] ∧ SqL K H a (ns.map V.int) ∧ IsArr ns ∧ ns.length ≤ 1000 ∧ ∀ H', Same H H' → Q .non H'
theorem ok_check_arrangement (T : Txt K mg) : FnG P w K mg base CX0 1 T.check_arrangement_a T.check_arrangement_d ["row"] (sp_check_arrangement K) := by
  refine okG T.check_arrangement_F sc_check_arrangement (fun vs H Q E h => ?_) (fun cdv A ou t H vs Q E hG hr h => ?_)
  · obtain ⟨_, _, rfl, _⟩ := h; rfl
  have nd := sc_check_arrangement.nd
  obtain ⟨a, ns, rfl, hS, hA, hlen, q⟩ := h
  refine ⟨_, (pss_cons (sset 1 nd (pe_callTy0 cr_set0 (by rfl) T.m_set (by decide +kernel)))
      (pss_one (ps_for PassesOwn.never rfl (pi_enumK K (by rfl) T.m_enumerate (pa_cons (pv 0) pa_nil)) (pg_tupK K 2 rfl (pgs_cons (gset 2 nd) (pgs_cons (gset 3 nd) pgs_nil)))
        (pss_cons (ps_if (PW.pt (pw_or (pt_cmpR op_lt (pv 3) pe_int (nomark _)) (pw_or (pt_cmpR op_gt (pv 3) (pe_callB (lenK K) (by rfl) T.m_len PySem.boot_len (pa_cons (pv 0) pa_nil)) (nomark _)) (pw_or1 (pt_cmpR or_sin (pv 3) (pv 1) (by rfl))))))
        (pss_one ps_never)
        pss_nil)
      (pss_one (ps_expr (pe_sadd (pv 1) (pa_cons (pv 3) pa_nil)))))))), ?_⟩
  fail "g"
  refine r_set0 fun p np => ?_
  have s1 := same_new (o := SetO w p (fun _ => false) 0) np
  have hS1 := s1.seq hS
  fail "g"
  refine ⟨a, _, rfl, hS1, ?_⟩
  refine forEI (walk_enum (xs := ns.map V.int)) (fun i σ' H' => ∃ (S : Int → Bool) (n : Nat) (y2 y3 : Option V), σ' = [some (.ref a), some (.ref p), y2, y3] ∧ Same H H' ∧ H' p = some (SetO w p S n) ∧ n ≤ i ∧ ∀ v, S v = true → v ∈ ns.take i)
    ⟨fun _ => false, 0, none, none, rfl, s1, upd_same, Nat.le_refl _, fun v hv => by cases hv⟩ (fun i σ' H' _ p => ?_) (fun i σ' H' T1 hi p' nT => ?_) (fun σ' H' p' => ?_)
  · obtain ⟨_, _, _, _, _, s, _⟩ := p; exact s.seq hS
  · obtain ⟨S, n, y2, y3, rfl, s, hP, hn, hin⟩ := p'
    have s2 := s.trans (same_new (o := .tup [.int (i : Nat), .int ns[i]]) nT)
    have hS2 := s2.seq hS
    have hP2 := upd_old (o := .tup [.int (i : Nat), .int ns[i]]) nT hP
    have hv := hA.2 ns[i] (List.getElem_mem hi)
    fail "g"
    refine r_itDF (by omega) ?_
    fail "g"
    refine r_itDF (by rw [List.length_map]; omega) ?_
    fail "g"
    refine r_sin hP2 ?_
    have hno : S ns[i] = false := by
      cases h : S ns[i] with
      | false => rfl
      | true =>
        have h1 := hin _ h
        have h2 := hA.1
        rw [← List.take_append_drop i ns, List.nodup_append] at h2
        rw [List.drop_eq_getElem_cons hi] at h2
        exact absurd rfl (h2.2.2 _ h1 _ List.mem_cons_self)
    rw [hno]
    fail "g"
    refine ⟨⟨p, S, n, rfl, hP2⟩, ?_⟩
    fail "g"
    refine r_sadd hP2 (by omega) ?_
    fail "g"
    refine ⟨_, _, _, _, rfl, same_old s2 np, upd_same, by split <;> omega, fun v hv => ?_⟩
    rw [take_one hi]
    rcases Bool.or_eq_true_iff.mp hv with h | h
    · exact List.mem_append_left _ (hin v h)
    · rw [of_decide_eq_true h]; exact List.mem_append_right _ List.mem_cons_self
  · obtain ⟨S, n, y2, y3, rfl, s, hP, hn, hin⟩ := p'
    fail "g"
    exact q _ s
def sp_sort_stretches (K : PySem.W.Frag) : Sp := fun vs H Q _ => ∃ (a b : Addr) (ns : List Int) (ts : List Addr) (cs : List Cmd), vs = [.ref a, .ref b] ∧ SqL K H a (ns.map V.int) ∧ SqL K H b (ts.map V.ref) ∧ Cm H ts cs ∧ ns.length ≤ 1000 ∧ Fits ns.length cs ∧
  ∀ (H' : Hp) (p : Addr), Same H H' → H p = none → H' p = some (.lst ((runM ns cs).map V.int)) → Q (.ref p) H'
theorem ok_sort_stretches (T : Txt K mg) : FnG P w K mg base CX0 1 T.sort_stretches_a T.sort_stretches_d ["row", "commands"] (sp_sort_stretches K) := by
  refine okG T.sort_stretches_F sc_sort_stretches (fun vs H Q E h => ?_) (fun cdv A ou t H vs Q E hG hr h => ?_)
  · obtain ⟨_, _, _, _, _, rfl, _⟩ := h; rfl
  have nd := sc_sort_stretches.nd
  obtain ⟨a, b, ns, ts, cs, rfl, hS, hB, hC, hn2, hF, q⟩ := h
  refine ⟨_, (pss_cons (sset 2 nd (pe_callTy (listK K) (by rfl) T.m_list (by decide +kernel) (pa_cons (pv 0) pa_nil)))
      (pss_cons (ps_for PassesOwn.never rfl (pi_listK K (pv 1)) (pg_tupK K 2 rfl (pgs_cons (gset 3 nd) (pgs_cons (gset 4 nd) pgs_nil)))
        (pss_one (ps_asg (pe_callB (sortedK K) (by rfl) T.m_sorted (by decide +kernel) (pa_cons (pe_slice (sl_listK K) (pv 2) (po_some (pe_op op_sub (pv 3) pe_int)) (po_some (pv 4))) pa_nil)) (pg_slc (pv 2) (po_some (pe_op op_sub (pv 3) pe_int)) (po_some (pv 4))))))
      (pss_one (ps_ret (pv 2))))), ?_⟩
  fail "g"
  intro p np
  have hp : H p = none := np
  have s2 := same_new (o := .lst (ns.map V.int)) np
  have hB2 := s2.seq hB
  fail "g"
  refine forA (walk_list (xs := ts.map V.ref)) (fun i σ' H' => ∃ y3 y4, σ' = [some (.ref a), some (.ref b), some (.ref p), y3, y4] ∧ Same H H' ∧ H' p = some (.lst ((runM ns (cs.take i)).map V.int)))
    ⟨none, none, rfl, s2, upd_same⟩ (fun i σ' H' _ q => ?_) (fun i σ' H' hi q => ?_) (fun σ' H' q' => ?_)
  · obtain ⟨_, _, _, s, _⟩ := q; exact s.seq hB
  · obtain ⟨y3, y4, rfl, s, hP⟩ := q
    have hi' : i < cs.length := by rw [← hC.len]; simpa using hi
    obtain ⟨t0, et, ht⟩ := hC.idx hi'
    have e1 : (ts.map V.ref)[i] = .ref t0 := by
      have : (ts.map V.ref)[i]? = some (.ref t0) := by rw [List.getElem?_map, et]; rfl
      rw [List.getElem?_eq_getElem hi] at this
      exact Option.some.inj this
    rw [e1]
    have hc := hF cs[i] (List.getElem_mem hi')
    have ht1 := s _ _ ht
    have hlenP : (runM ns (cs.take i)).length = ns.length := runM_len hF.take
    fail "g"
    intro l0 n0
    rw [cut_mid (a := cs[i].1 - 1) (b := cs[i].2) (by omega) rfl (by rw [List.length_map]; omega), ← List.map_drop, ← List.map_take] at *
    fail "g"
    refine ⟨l0, _, rfl, sq upd_same, fun ns' l1 hperm hup n1 => ?_⟩
    have e2 := srt_is hperm hup
    subst e2
    fail "g"
    have hP2 := upd_old (o := .lst ((srt (((runM ns (cs.take i)).drop (cs[i].1 - 1)).take (cs[i].2 - (cs[i].1 - 1)))).map V.int)) n1 (upd_old (o := .lst ((((runM ns (cs.take i)).drop (cs[i].1 - 1)).take (cs[i].2 - (cs[i].1 - 1))).map V.int)) n0 hP)
    refine ⟨p, l1, _, _, _, _, rfl, rfl, rfl, rfl, hP2, upd_same, ne_of_none (upd_old n0 hP) n1, by omega, by omega, by rw [List.length_map]; omega, ?_, ?_⟩
    · rw [List.length_map, List.length_map, srt_len, List.length_take, List.length_drop]; exact size_le (by omega)
    · refine ⟨_, _, rfl, same_old ((s.trans (same_new n0)).trans (same_new n1)) hp, ?_⟩
      rw [upd_same, take_one hi', runM_snoc]
      rw [show ((cs[i].1 : Nat) - 1 : Int).toNat = cs[i].1 - 1 by omega, show ((cs[i].2 : Nat) : Int).toNat = cs[i].2 by omega, ← List.map_take, ← List.map_drop, ← List.map_append, ← List.map_append]
      rfl
  · obtain ⟨y3, y4, rfl, s, hP⟩ := q'
    fail "g"
    rw [List.take_of_length_le (by rw [List.length_map, hC.len]; exact Nat.le_refl _)] at hP
    exact q _ _ s hp hP
def sp_linked_blocks (K : PySem.W.Frag) : Sp := fun vs H Q _ => ∃ (n : Nat) (b : Addr) (ts : List Addr) (cs : List Cmd), vs = [.int n, .ref b] ∧ n ≤ 1000 ∧ SqL K H b (ts.map V.ref) ∧ Cm H ts cs ∧ Fits n cs ∧
  ∀ (H' : Hp) (p : Addr) (us : List Addr), Same H H' → H p = none → H' p = some (.lst (us.map V.ref)) → Cm H' us (blkM n cs) → Q (.ref p) H'
theorem ok_linked_blocks (T : Txt K mg) : FnG P w K mg base CX0 1 T.linked_blocks_a T.linked_blocks_d ["size", "commands"] (sp_linked_blocks K) := by
  refine okG T.linked_blocks_F sc_linked_blocks (fun vs H Q E h => ?_) (fun cdv A ou t H vs Q E hG hr h => ?_)
  · obtain ⟨_, _, _, _, rfl, _⟩ := h; rfl
  have nd := sc_linked_blocks.nd
  obtain ⟨n, b, ts, cs, rfl, hn, hB, hC, hF, q⟩ := h
  refine ⟨_, (pss_cons (sset 2 nd (pe_op op_rep (pe_lst (pa_cons pe_bl pa_nil)) (pv 0)))
      (pss_cons (ps_for PassesOwn.never rfl (pi_listK K (pv 1)) (pg_tupK K 2 rfl (pgs_cons (gset 3 nd) (pgs_cons (gset 4 nd) pgs_nil)))
        (pss_one (ps_for PassesOwn.never rfl (pi_range2 (by rfl) T.m_range (pa_cons (pv 3) (pa_cons (pv 4) pa_nil))) (gset 5 nd)
        (pss_one (ps_asg pe_bl (pg_sub (pv 2) (pe_op op_sub (pv 5) pe_int) set_list))))))
      (pss_cons (sset 6 nd (pe_lst pa_nil))
      (pss_cons (sset 7 nd pe_int)
      (pss_cons (ps_for PassesOwn.never rfl (pi_enumSK K (by rfl) T.m_enumerate (pa_cons (pv 2) pa_nil) (pk_cons pe_int pk_nil)) (pg_tupK K 2 rfl (pgs_cons (gset 5 nd) (pgs_cons (gset 8 nd) pgs_nil)))
        (pss_one (ps_if (pt_not (pt_val (pv 8)))
        (pss_cons (ps_expr (pe_bmK K PySem.F.plainAttrs_list PySem.F.slot_list_append PySem.F.type_list_append mt_append (pv 6) (pa_cons (pe_tup (pa_cons (pv 7) (pa_cons (pv 5) pa_nil))) pa_nil)))
      (pss_one (sset 7 nd (pe_op op_add (pv 5) pe_int))))
        pss_nil)))
      (pss_one (ps_ret (pv 6)))))))), ?_⟩
  fail "ww"
  refine new_ fun l0 H1 n0 s1 h0 => ?_
  fail "ww"
  refine n_rep h0 (by omega) (by show 1 * n ≤ _; omega) (new_ fun l H2 nl s2 hl => ?_)
  rw [flg_nil] at hl
  have nl0 : H l = none := by fail "kpz"
  fail "ww"
  refine forA (walk_list (xs := ts.map V.ref)) (fun i σ' H' => ∃ (y3 y4 y5 y6 y7 y8 : Option V), σ' = [some (.int (n : Int)), some (.ref b), some (.ref l), y3, y4, y5, y6, y7, y8] ∧ Same H H' ∧ H' l = some (.lst ((flg n (cs.take i)).map V.bl)))
    ⟨none, none, none, none, none, none, rfl, by fail "kp", hl⟩ (fun i σ' H' _ p => ?_) (fun i σ' H' hi p => ?_) (fun σ' H' p => ?_)
  · obtain ⟨_, _, _, _, _, _, _, s, _⟩ := p; fail "kp"
  · obtain ⟨y3, y4, y5, y6, y7, y8, rfl, s, hL⟩ := p
    have hi' : i < cs.length := by rw [← hC.len]; simpa using hi
    obtain ⟨t0, et, ht⟩ := hC.idx hi'
    have e1 : (ts.map V.ref)[i] = .ref t0 := by
      have : (ts.map V.ref)[i]? = some (.ref t0) := by rw [List.getElem?_map, et]; rfl
      rw [List.getElem?_eq_getElem hi] at this
      exact Option.some.inj this
    rw [e1]
    have hc := hF cs[i] (List.getElem_mem hi')
    rw [take_one hi']
    generalize cs[i] = c at hc ht ⊢
    generalize cs.take i = ds at hL ⊢
    fail "ww"
    refine ⟨⟨by omega, by omega, by omega, by omega⟩, ?_⟩
    rw [← flgU_0 n ds c] at hL
    refine forF walk_range (fun j σ' H' => ∃ (y5 y6 y7 y8 : Option V) (_u : Unit), σ' = [some (.int (n : Int)), some (.ref b), some (.ref l), some (.int (c.1 : Nat)), some (.int (c.2 : Nat)), y5, y6, y7, y8] ∧ Same H H' ∧ H' l = some (.lst (flgU n ds c j)))
      ⟨y5, y6, y7, y8, (), rfl, s, hL⟩ (fun _ _ _ _ _ => trivial) (fun j σ' H' hj p => ?_) (fun σ' H' p => ?_)
    · obtain ⟨y5, y6, y7, y8, _, rfl, s, hL⟩ := p
      fail "ww"
      refine r_setL hL (n := c.1 + j - 1) (ix_of (by omega) (by rw [flgU_len]; omega)) ?_
      rw [flgU_set n ds c j hc.1]
      exact ⟨_, _, _, _, (), rfl, same_old s nl0, upd_same⟩
    · obtain ⟨y5, y6, y7, y8, _, rfl, s, hL⟩ := p
      rw [show ((c.2 : Int) - (c.1 : Int)).toNat = c.2 - c.1 by omega, flgU_end n ds c hc.2.1] at hL
      exact ⟨_, _, _, _, _, _, rfl, s, hL⟩
  · obtain ⟨y3, y4, y5, y6, y7, y8, rfl, s, hL⟩ := p
    rw [List.take_of_length_le (by rw [List.length_map, hC.len]; exact Nat.le_refl _)] at hL
    clear s1 s2 h0 n0 hl
    fail "ww"
    refine new_ fun p H3 np s3 hp => ?_
    fail "ww"
    have np0 : H p = none := by fail "kpz"
    refine ⟨l, (flg n cs).map V.bl, 1, rfl, rfl, by fail "kp", by decide, by decide, ?_⟩
    have hL3 : H3 l = some (.lst ((flg n cs).map V.bl)) := by fail "kp"
    have hlp : l ≠ p := ne_of_none hL np
    have s03 : Same H H3 := by fail "kp"
    clear s s3 hL
    refine forP (walk_enumS (xs := (flg n cs).map V.bl)) (fun i σ' H' => ∃ (y3 y4 y5 y8 : Option V) (us : List Addr), σ' = [some (.int (n : Int)), some (.ref b), some (.ref l), y3, y4, y5, some (.ref p), some (.int ((blkU cs i).2 : Nat)), y8] ∧ Sx p H3 H' ∧ Same H H' ∧ H' p = some (.lst (us.map V.ref)) ∧ Cm H' us (blkU cs i).1 ∧ us.length ≤ i)
      ⟨y3, y4, y5, y8, [], rfl, Sx.refl, s03, hp, Cm.nil, Nat.le_refl _⟩ (fun i σ' H' _ p' => ?_) (fun i σ' H' T x y hi p' e1 e2 nT => ?_) (fun σ' H' p' => ?_)
    · obtain ⟨_, _, _, _, _, _, s, _⟩ := p'
      exact sq (s _ _ hlp hL3)
    · obtain ⟨y3, y4, y5, y8, us, rfl, sx, s, hP, hU, hul⟩ := p'
      have hi' : i < (flg n cs).length := by simpa using hi
      have hin : i < n := by rw [flg_len] at hi'; exact hi'
      cases e1
      rw [List.getElem?_map, List.getElem?_eq_getElem hi', flg_at] at e2
      cases e2
      have hblk : blkU cs (i + 1) = if lnk cs (i + 1) then blkU cs i else ((blkU cs i).1 ++ [((blkU cs i).2, i + 1)], i + 2) := rfl
      fail "ww"
      by_cases hl : lnk cs (i + 1) = true
      · rw [hl]
        fail "ww"
        rw [if_pos hl] at hblk
        rw [hblk]
        exact ⟨_, _, _, _, us, rfl, sx.same (same_new nT), by fail "kp", by fail "kp", by fail "kp", by omega⟩
      · rw [Bool.not_eq_true] at hl
        rw [hl]
        rw [if_neg (by rw [hl]; simp)] at hblk
        rw [hblk]
        fail "ww"
        refine new_ fun t H4 nt s4 ht => ?_
        have hP4 : H4 p = some (.lst (us.map V.ref)) := by fail "kp"
        fail "ww"
        refine r_append hP4 (by rw [List.length_map]; exact size_lt (by omega)) ?_
        fail "ww"
        have ht' : H4 t = some (.tup [.int (((blkU cs i).2 : Nat)), .int (((i + 1 : Nat)) : Int)]) := by
          rw [ht, show (1 : Int) + (i : Int) = ((i + 1 : Nat) : Int) by omega]
        rw [show (1 : Int) + (i : Int) + 1 = ((i + 2 : Nat) : Int) by omega]
        refine ⟨_, _, _, _, us ++ [t], rfl, Sx.trans ((sx.same (same_new nT)).same s4) Sx.put, same_old (by fail "kp") np0, by rw [upd_same, List.map_append]; rfl, ?_, by rw [List.length_append]; show _ + 1 ≤ _; omega⟩
        · exact (Cm.snoc (c := ((blkU cs i).2, i + 1)) (by fail "kp") ht').put hP4
    · obtain ⟨y3, y4, y5, y8, us, rfl, sx, s, hP, hU, hul⟩ := p'
      rw [List.length_map, flg_len] at hU
      fail "ww"
      exact q _ p us s np0 hP hU
def sp_nth_choice (K : PySem.W.Frag) : Sp := fun vs H Q _ => ∃ (a : Addr) (ws : List Int) (k m : Nat), vs = [.ref a, .int k, .int m] ∧ H a = some (.lst (ws.map V.int)) ∧ ws.length ≤ 100 ∧ k ≤ ws.length ∧ m < cmb ws.length k ∧
  ∀ (H' : Hp) (p : Addr) (c : List Int), Same H H' → H p = none → (chs ws k)[m]? = some c → H' p = some (.lst (c.map V.int)) → Q (.ref p) H'
theorem ok_nth_choice (T : Txt K mg) : FnG P w K mg base CX0 1 T.nth_choice_a T.nth_choice_d ["values", "length", "number"] (sp_nth_choice K) := by
  refine okG T.nth_choice_F sc_nth_choice (fun vs H Q E h => ?_) (fun cdv A ou t H vs Q E hG hr h => ?_)
  · obtain ⟨_, _, _, _, rfl, _⟩ := h; rfl
  have nd := sc_nth_choice.nd
  obtain ⟨a, ws, k, m, rfl, hA, hn, hk, hm, q⟩ := h
  refine ⟨_, (pss_cons (sset 3 nd (pe_lst pa_nil))
      (pss_cons (sset 4 nd (pv 2))
      (pss_cons (ps_for PassesOwn.never rfl (pi_enumK K (by rfl) T.m_enumerate (pa_cons (pv 0) pa_nil)) (pg_tupK K 2 rfl (pgs_cons (gset 5 nd) (pgs_cons (gset 6 nd) pgs_nil)))
        (pss_cons (ps_if (pt_cmpR op_eq (pe_callB (lenK K) (by rfl) T.m_len PySem.boot_len (pa_cons (pv 3) pa_nil)) (pv 1) (nomark _))
        (pss_one ps_break)
        pss_nil)
      (pss_cons (sset 7 nd (pe_callBfun cr_comb (by rfl) T.g_comb (pa_cons (pe_op op_sub (pe_op op_sub (pe_callB (lenK K) (by rfl) T.m_len PySem.boot_len (pa_cons (pv 0) pa_nil)) (pv 5)) pe_int) (pa_cons (pe_op op_sub (pe_op op_sub (pv 1) (pe_callB (lenK K) (by rfl) T.m_len PySem.boot_len (pa_cons (pv 3) pa_nil))) pe_int) pa_nil))))
      (pss_one (ps_if (pt_cmpR op_lt (pv 4) (pv 7) (nomark _))
        (pss_one (ps_expr (pe_bmK K PySem.F.plainAttrs_list PySem.F.slot_list_append PySem.F.type_list_append mt_append (pv 3) (pa_cons (pv 6) pa_nil))))
        (pss_one (saug 4 nd (pv 7) ip_sub)))))))
      (pss_one (ps_ret (pv 3)))))), ?_⟩
  fail "ww"
  refine new_ fun l H1 nl s1 hl => ?_
  fail "ww"
  have hm' : m < (chs ws k).length := by rw [chs_len]; exact hm
  have nl0 := nl
  have hal : a ≠ l := ne_of_none hA nl
  have hA1 := s1 _ _ hA
  refine forEI (walk_enum (xs := ws.map V.int)) (fun j σ' H' => ∃ (y5 y6 y7 : Option V) (ch t : List Int) (lf : Nat), σ' = [some (.ref a), some (.int k), some (.int m), some (.ref l), some (.int lf), y5, y6, y7] ∧ Sx l H1 H' ∧ Same H H' ∧ H' l = some (.lst (ch.map V.int)) ∧ ch.length ≤ k ∧ (chs (ws.drop j) (k - ch.length))[lf]? = some t ∧ (chs ws k)[m]? = some (ch ++ t))
    ⟨none, none, none, [], (chs ws k)[m], m, rfl, Sx.refl, s1, hl, Nat.zero_le _, List.getElem?_eq_getElem hm', List.getElem?_eq_getElem hm'⟩ (fun j σ' H' _ p' => ?_) (fun j σ' H' T hj p' nT => ?_) (fun σ' H' p' => ?_)
  · obtain ⟨_, _, _, _, _, _, _, s, _⟩ := p'; exact sq (s _ _ hal hA1)
  · clear hl s1
    obtain ⟨y5, y6, y7, ch, t, lf, rfl, sx, s, hl, hck, ht, hc⟩ := p'
    have hl' := upd_old (o := .tup [.int (j : Nat), .int ws[j]]) nT hl
    have s' := s.trans (same_new (o := .tup [.int (j : Nat), .int ws[j]]) nT)
    have sx' := sx.same (same_new (o := .tup [.int (j : Nat), .int ws[j]]) nT)
    have hT : upd H' T (.tup [.int (j : Nat), .int ws[j]]) T = some (.tup [.int (j : Nat), .int ws[j]]) := upd_same
    have hA' := s' _ _ hA
    rw [List.drop_eq_getElem_cons hj] at ht
    have hrl : (ws.drop (j + 1)).length = ws.length - (j + 1) := List.length_drop
    generalize upd H' T (.tup [.int (j : Nat), .int ws[j]]) = G at *
    generalize ws[j] = v at *
    fail "ww"
    rw [List.length_map]
    refine r_dec (fun g => ?_) (fun g => ?_)
    · have e0 : k - ch.length = 0 := by omega
      rw [e0, chs_zero] at ht
      have et : t = [] := by
        cases lf with
        | zero => exact (Option.some.inj ht).symm
        | succ n => simp at ht
      subst et
      rw [List.append_nil] at hc
      fail "ww"
      exact q _ l ch s' nl0 hc hl'
    · obtain ⟨k', hk'⟩ : ∃ k', k - ch.length = k' + 1 := ⟨k - ch.length - 1, by omega⟩
      rw [hk'] at ht
      replace ht : ((chs (ws.drop (j + 1)) k').map (fun u => v :: u) ++ chs (ws.drop (j + 1)) (k' + 1))[lf]? = some t := ht
      have hlt := (List.getElem?_eq_some_iff.mp ht).1
      rw [List.length_append, List.length_map, chs_len, chs_len, hrl] at hlt
      have hkr : k' ≤ ws.length - (j + 1) := by
        apply Classical.byContradiction; intro q
        rw [cmb_big (show ws.length - (j + 1) < k' by omega), cmb_big (show ws.length - (j + 1) < k' + 1 by omega)] at hlt
        omega
      fail "ww"
      rw [List.length_map, List.length_map]
      refine ⟨ws.length - (j + 1), k', by rw [show ((ws.length : Nat) : Int) - ((j : Nat) : Int) - 1 = ((ws.length - (j + 1) : Nat) : Int) by omega, show ((k : Nat) : Int) - ((ch.length : Nat) : Int) - 1 = ((k' : Nat) : Int) by omega], hkr, by omega, ?_⟩
      fail "ww"
      refine r_dec (fun g2 => ?_) (fun g2 => ?_)
      · rw [List.getElem?_append_left (by rw [List.length_map, chs_len, hrl]; omega), List.getElem?_map] at ht
        obtain ⟨u, eu, rfl⟩ := Option.map_eq_some_iff.mp ht
        fail "ww"
        refine r_append hl' (by rw [List.length_map]; exact size_lt (by omega)) ?_
        refine ⟨_, _, _, ch ++ [v], u, lf, rfl, sx'.trans Sx.put, fun b' o' e' => upd_to (ne_of_none e' nl0) (s' _ _ e'), by rw [upd_same]; simp, by rw [List.length_append]; simp; omega, ?_, by rw [hc]; simp⟩
        rw [List.length_append, show k - (ch.length + [v].length) = k' by simp; omega]; exact eu
      · rw [List.getElem?_append_right (by rw [List.length_map, chs_len, hrl]; omega), List.length_map, chs_len, hrl] at ht
        fail "ww"
        rw [show ((lf : Nat) : Int) - ((cmb (ws.length - (j + 1)) k' : Nat) : Int) = ((lf - cmb (ws.length - (j + 1)) k' : Nat) : Int) by omega]
        exact ⟨_, _, _, ch, t, lf - cmb (ws.length - (j + 1)) k', rfl, sx', s', hl', hck, by rw [hk']; exact ht, hc⟩
  · clear hl s1
    obtain ⟨y5, y6, y7, ch, t, lf, rfl, sx, s, hl, hck, ht, hc⟩ := p'
    rw [List.length_map, List.drop_of_length_le (Nat.le_refl _)] at ht
    have et : t = [] := by
      cases e : k - ch.length with
      | zero =>
        rw [e] at ht
        cases lf with
        | zero => exact (Option.some.inj ht).symm
        | succ n => simp [chs_zero] at ht
      | succ n => rw [e] at ht; simp [chs] at ht
    subst et
    rw [List.append_nil] at hc
    fail "ww"
    exact q _ l ch s nl0 hc hl
def sp_choice_number (K : PySem.W.Frag) : Sp := fun vs H Q _ => ∃ (a b : Addr) (ws ch : List Int), vs = [.ref a, .ref b] ∧ H a = some (.lst (ws.map V.int)) ∧ H b = some (.lst (ch.map V.int)) ∧ ws.length ≤ 100 ∧ ws.Pairwise (· < ·) ∧ ch.Sublist ws ∧
  ∀ (H' : Hp), Same H H' → Q (.int (chIx ws ch : Nat)) H'
theorem ok_choice_number (T : Txt K mg) : FnG P w K mg base CX0 1 T.choice_number_a T.choice_number_d ["values", "chosen"] (sp_choice_number K) := by
  refine okG T.choice_number_F sc_choice_number (fun vs H Q E h => ?_) (fun cdv A ou t H vs Q E hG hr h => ?_)
  · obtain ⟨_, _, _, _, rfl, _⟩ := h; rfl
  have nd := sc_choice_number.nd
  obtain ⟨a, b, ws, ch, rfl, hA, hB, hn, hup, hsub, q⟩ := h
  refine ⟨_, (pss_cons (sset 2 nd pe_int)
      (pss_cons (sset 3 nd pe_int)
      (pss_cons (ps_for PassesOwn.never rfl (pi_enumK K (by rfl) T.m_enumerate (pa_cons (pv 0) pa_nil)) (pg_tupK K 2 rfl (pgs_cons (gset 4 nd) (pgs_cons (gset 5 nd) pgs_nil)))
        (pss_cons (ps_if (pt_cmpR op_eq (pv 3) (pe_callB (lenK K) (by rfl) T.m_len PySem.boot_len (pa_cons (pv 1) pa_nil)) (nomark _))
        (pss_one ps_break)
        pss_nil)
      (pss_one (ps_if (pt_cmpR op_eq (pv 5) (pe_ix (ix_listK K) (pv 1) (pv 3) (fun _ _ => rfl)) (nomark _))
        (pss_one (saug 3 nd pe_int ip_add))
        (pss_one (saug 2 nd (pe_callBfun cr_comb (by rfl) T.g_comb (pa_cons (pe_op op_sub (pe_op op_sub (pe_callB (lenK K) (by rfl) T.m_len PySem.boot_len (pa_cons (pv 0) pa_nil)) (pv 4)) pe_int) (pa_cons (pe_op op_sub (pe_op op_sub (pe_callB (lenK K) (by rfl) T.m_len PySem.boot_len (pa_cons (pv 1) pa_nil)) (pv 3)) pe_int) pa_nil))) ip_add))))))
      (pss_one (ps_ret (pv 2)))))), ?_⟩
  fail "ww"
  refine forEI (walk_enum (xs := ws.map V.int)) (fun j σ' H' => ∃ (y4 y5 : Option V) (m f : Nat), σ' = [some (.ref a), some (.ref b), some (.int m), some (.int f), y4, y5] ∧ Same H H' ∧ m + chIx (ws.drop j) (ch.drop f) = chIx ws ch ∧ (ch.drop f).Sublist (ws.drop j) ∧ f ≤ ch.length)
    ⟨none, none, 0, 0, rfl, Same.refl _, by rw [Nat.zero_add]; rfl, hsub, Nat.zero_le _⟩ (fun j σ' H' _ p' => ?_) (fun j σ' H' T hj p' nT => ?_) (fun σ' H' p' => ?_)
  · obtain ⟨_, _, _, _, _, s, _⟩ := p'; exact sq (s _ _ hA)
  · obtain ⟨y4, y5, m, f, rfl, s, hm, hs, hf⟩ := p'
    have s' := s.trans (same_new (o := .tup [.int (j : Nat), .int ws[j]]) nT)
    have hT : upd H' T (.tup [.int (j : Nat), .int ws[j]]) T = some (.tup [.int (j : Nat), .int ws[j]]) := upd_same
    have hA' := s' _ _ hA
    have hB' := s' _ _ hB
    rw [List.drop_eq_getElem_cons hj] at hm hs
    have hrl : (ws.drop (j + 1)).length = ws.length - (j + 1) := List.length_drop
    have hgt : ∀ y ∈ ws.drop (j + 1), ws[j] < y := by
      have := hup.sublist (List.drop_sublist j ws)
      rw [List.drop_eq_getElem_cons hj] at this
      exact (List.pairwise_cons.mp this).1
    generalize upd H' T (.tup [.int (j : Nat), .int ws[j]]) = G at *
    generalize ws[j] = v at *
    fail "ww"
    rw [List.length_map]
    refine r_dec (fun g => ?_) (fun g => ?_)
    · rw [List.drop_of_length_le (l := ch) (i := f) (by omega)] at hm
      replace hm : m + 0 = chIx ws ch := hm
      fail "ww"
      rw [show m = chIx ws ch by omega]
      exact q _ s'
    · have hf' : f < ch.length := by omega
      rw [List.drop_eq_getElem_cons hf'] at hm hs
      fail "ww"
      refine r_ixL (sq hB') (at_map (ns := ch) (j := f) rfl hf') ?_
      fail "ww"
      refine r_dec (fun g2 => ?_) (fun g2 => ?_)
      · have e : chIx (v :: ws.drop (j + 1)) (ch[f] :: ch.drop (f + 1)) = chIx (ws.drop (j + 1)) (ch.drop (f + 1)) := if_pos g2
        rw [e] at hm
        fail "ww"
        refine ⟨_, _, m, f + 1, rfl, s', hm, ?_, by omega⟩
        cases hs with
        | cons _ q => exact absurd (hgt _ (q.subset List.mem_cons_self)) (by omega)
        | cons_cons _ q => exact q
      · have e : chIx (v :: ws.drop (j + 1)) (ch[f] :: ch.drop (f + 1)) = cmb (ws.drop (j + 1)).length (ch.drop (f + 1)).length + chIx (ws.drop (j + 1)) (ch[f] :: ch.drop (f + 1)) := if_neg g2
        have hs2 : (ch[f] :: ch.drop (f + 1)).Sublist (ws.drop (j + 1)) := by
          cases hs with
          | cons _ q => exact q
          | cons_cons _ q => exact absurd rfl g2
        have hl2 := hs2.length_le
        rw [List.length_cons, List.length_drop, hrl] at hl2
        rw [e, hrl, List.length_drop] at hm
        fail "ww"
        rw [List.length_map, List.length_map]
        refine ⟨ws.length - (j + 1), ch.length - (f + 1), by rw [show ((ws.length : Nat) : Int) - ((j : Nat) : Int) - 1 = ((ws.length - (j + 1) : Nat) : Int) by omega, show ((ch.length : Nat) : Int) - ((f : Nat) : Int) - 1 = ((ch.length - (f + 1) : Nat) : Int) by omega], by omega, by omega, ?_⟩
        fail "ww"
        rw [show ((m : Nat) : Int) + ((cmb (ws.length - (j + 1)) (ch.length - (f + 1)) : Nat) : Int) = ((m + cmb (ws.length - (j + 1)) (ch.length - (f + 1)) : Nat) : Int) by omega]
        refine ⟨_, _, m + cmb (ws.length - (j + 1)) (ch.length - (f + 1)), f, rfl, s', ?_, by rw [List.drop_eq_getElem_cons hf']; exact hs2, hf⟩
        rw [← hm, List.drop_eq_getElem_cons hf']; omega
  · obtain ⟨y4, y5, m, f, rfl, s, hm, hs, hf⟩ := p'
    rw [List.length_map, List.drop_of_length_le (Nat.le_refl _)] at hm
    have e : chIx [] (ch.drop f) = 0 := by unfold chIx; rfl
    rw [e] at hm
    fail "ww"
    rw [show m = chIx ws ch by omega]
    exact q _ s
def sp_law_pool (K : PySem.W.Frag) : Sp := fun vs H Q _ => ∃ (a : Addr) (ns : List Int) (k : Nat), vs = [.ref a, .int k] ∧ SqL K H a (ns.map V.int) ∧ k ≤ 10 ∧ ∀ H' r, Same H H' → H r = none → Pol H' r 0 → Q (.ref r) H'
theorem ok_law_pool (T : Txt K mg) : FnG P w K mg base CX0 1 T.law_pool_a T.law_pool_d ["script", "at"] (sp_law_pool K) := by
  refine okG T.law_pool_F sc_law_pool (fun vs H Q E h => ?_) (fun cdv A ou t H vs Q E hG hr h => ?_)
  · obtain ⟨_, _, _, rfl, _⟩ := h; rfl
  have nd := sc_law_pool.nd
  obtain ⟨a, ns, k, rfl, hS, hk, q⟩ := h
  refine ⟨_, (pss_cons (sset 2 nd pe_int)
      (C8.pss_cut (ps_if (pt_cmpR op_lt (pv 1) (pe_callB (lenK K) (by rfl) T.m_len PySem.boot_len (pa_cons (pv 0) pa_nil)) (nomark _))
        (pss_one (sset 2 nd (pe_ix (ix_listK K) (pv 0) (pv 1) (fun _ _ => rfl))))
        pss_nil)
      (pss_one (ps_ret (pe_lst (pa_cons (pe_callB (call_max2 rfl) (by rfl) T.m_max (by decide +kernel) (pa_cons pe_int (pa_cons (pe_op op_sub (pe_callB call_abs (by rfl) T.m_abs (by decide +kernel) (pa_cons (pv 2) pa_nil)) (pe_op op_powW pe_int pe_int)) pa_nil))) (pa_cons (pe_op op_add (pe_op op_mod (pv 2) pe_int) (pe_op op_mulW pe_int (pe_op op_add (pv 1) pe_int))) (pa_cons pe_int pa_nil)))))))), ?_⟩
  fail "ww"
  refine r_cut (fun σ' H' => ∃ (c : Int) (_u : Unit), σ' = [some (.ref a), some (.int (k : Int)), some (.int c)] ∧ H' = H) ?_ (fun σ' H' p => ?_)
  · fail "ww"
    rw [List.length_map]
    refine r_dec (fun h => ?_) (fun h => ?_)
    · fail "ww"
      refine r_ixL hS (at_map (ns := ns) (j := k) rfl (by omega)) ?_
      fail "ww"
      exact ⟨_, (), rfl, rfl⟩
    · fail "ww"
      exact ⟨_, (), rfl, rfl⟩
  · obtain ⟨c, _, rfl, rfl⟩ := p
    fail "ww"
    refine r_I (wide_mul (a := 32) (b := 4) (by decide) (by omega) (by decide) (by decide) (by decide)) ?_
    fail "ww"
    refine new_ fun r H1 nr s1 hr => ?_
    refine q _ r s1 nr ⟨_, _, _, hr, by omega, by omega, by omega, by omega, by omega⟩
def sp_law_draw (K : PySem.W.Frag) : Sp := fun vs H Q _ => ∃ (r : Addr) (lim : Int) (m : Nat), vs = [.ref r, .int lim] ∧ Pol H r m ∧ m < 2 ^ 60 ∧ 0 < lim ∧ lim < 2 ^ 200 ∧
  ∀ H' d, 0 ≤ d → d < lim → Sx r H H' → Pol H' r (m + 1) → Q (.int d) H'
theorem ok_law_draw (T : Txt K mg) : FnG P w K mg base CX0 1 T.law_draw_a T.law_draw_d ["pool", "many"] (sp_law_draw K) := by
  refine okG T.law_draw_F sc_law_draw (fun vs H Q E h => ?_) (fun cdv A ou t H vs Q E hG hr h => ?_)
  · obtain ⟨_, _, _, rfl, _⟩ := h; rfl
  have nd := sc_law_draw.nd
  obtain ⟨r, lim, m, rfl, ⟨a, b, c, hR, ha, hb, hb2, hc, hcm⟩, hm, hl, hl2, q⟩ := h
  refine ⟨_, (pss_cons (ps_if (pt_cmpR op_gt (pe_ix (ix_listK K) (pv 0) pe_int (fun _ _ => rfl)) pe_int (nomark _))
        (pss_cons (sset 2 nd (pe_op op_mod (pe_ix (ix_listK K) (pv 0) pe_int (fun _ _ => rfl)) (pv 1)))
      (pss_cons (ps_asg (pe_op op_fdivW (pe_ix (ix_listK K) (pv 0) pe_int (fun _ _ => rfl)) (pv 1)) (pg_sub (pv 0) pe_int set_list))
      (pss_one (ps_ret (pv 2)))))
        pss_nil)
      (pss_cons (ps_asg (pe_op op_add (pe_ix (ix_listK K) (pv 0) pe_int (fun _ _ => rfl)) pe_int) (pg_sub (pv 0) pe_int set_list))
      (pss_cons (sset 3 nd (pe_op op_mod (pe_op op_powW (pe_op op_add (pe_ix (ix_listK K) (pv 0) pe_int (fun _ _ => rfl)) (pe_op op_mulW pe_int (pe_ix (ix_listK K) (pv 0) pe_int (fun _ _ => rfl)))) pe_int) pe_int))
      (pss_cons (sset 3 nd (pe_op op_mod (pe_op op_powW (pe_op op_add (pv 3) (pe_op op_mulW pe_int (pe_ix (ix_listK K) (pv 0) pe_int (fun _ _ => rfl)))) pe_int) pe_int))
      (pss_one (ps_ret (pe_op op_mod (pe_op op_fdivW (pv 3) pe_int) (pv 1)))))))), ?_⟩
  fail "g"
  refine r_dec (fun h1 => ?_) (fun h1 => ?_)
  · fail "g"
    refine r_I (wide_div hl (b := 201) (by omega) (by decide) (by decide)) ?_
    fail "g"
    exact q _ _ (Int.emod_nonneg _ (by omega)) (Int.emod_lt_of_pos _ hl) Sx.put ⟨_, _, _, upd_same, Int.ediv_nonneg ha (by omega), hb, hb2, hc, by omega⟩
  · fail "g"
    refine r_I (wide_mul (a := 30) (b := 61) (by omega) (by omega) (by decide) (by decide) (by decide)) ?_
    fail "g"
    refine r_I (powW (n := 100) (by omega) (by decide) (by decide) (by decide)) ?_
    fail "g"
    have hx := Int.emod_lt_of_pos ((b + 15499751 * (c + 1)) ^ Int.toNat 3) (show (0 : Int) < 162259276829213363391578010288127 by decide)
    have hx0 := Int.emod_nonneg ((b + 15499751 * (c + 1)) ^ Int.toNat 3) (show (162259276829213363391578010288127 : Int) ≠ 0 by decide)
    generalize (b + 15499751 * (c + 1)) ^ Int.toNat 3 % 162259276829213363391578010288127 = x at hx hx0 ⊢
    refine r_I (wide_mul (a := 30) (b := 61) (by omega) (by omega) (by decide) (by decide) (by decide)) ?_
    fail "g"
    refine r_I (pow5 (n := 120) (by omega) (by decide) (by decide) (by decide)) ?_
    fail "g"
    refine r_I ⟨by decide, by decide +kernel⟩ ?_
    fail "g"
    exact q _ _ (Int.emod_nonneg _ (by omega)) (Int.emod_lt_of_pos _ hl) Sx.put ⟨_, _, _, upd_same, ha, hb, hb2, by omega, by omega⟩
def sp_law_blocks (K : PySem.W.Frag) : Sp := fun vs H Q _ => ∃ (n : Nat) (b : Addr) (ts : List Addr) (cs : List Cmd), vs = [.int n, .ref b] ∧ 1 ≤ n ∧ n ≤ 1000 ∧ SqL K H b (ts.map V.ref) ∧ Cm H ts cs ∧ Fits n cs ∧ cs.length ≤ 10000 ∧
  ∀ (H' : Hp) (p : Addr) (us : List Addr), Same H H' → H p = none → H' p = some (.lst (us.map V.ref)) → Cm H' us (blkM n cs) → Q (.ref p) H'
theorem ok_law_blocks (T : Txt K mg) : FnG P w K mg base CX0 1 T.law_blocks_a T.law_blocks_d ["wide", "steps_here"] (sp_law_blocks K) := by
  refine okG T.law_blocks_F sc_law_blocks (fun vs H Q E h => ?_) (fun cdv A ou t H vs Q E hG hr h => ?_)
  · obtain ⟨_, _, _, _, rfl, _⟩ := h; rfl
  have nd := sc_law_blocks.nd
  obtain ⟨n, b, ts, cs, rfl, hn1, hn, hB, hC, hF, hl, q⟩ := h
  refine ⟨_, (pss_cons (sset 2 nd (pe_lst (pa_cons (pe_lst (pa_cons pe_int (pa_cons pe_int pa_nil))) pa_nil)))
      (pss_cons (ps_for PassesOwn.never rfl (pi_range2 (by rfl) T.m_range (pa_cons pe_int (pa_cons (pe_op op_add (pv 0) pe_int) pa_nil))) (gset 3 nd)
        (pss_one (ps_if (pt_cmpR (neDK K hr.units) (pe_lc (own := [("begin", 4), ("end", 5)]) (hc := rfl) (hN := nd) (hi := (pi_listK K (pv 1))) (ok := blkOk_by (by rfl)) (hg := fun _ _ _ _ _ => (pg_tupK K 2 rfl (pgs_cons (gset 4 nd) (pgs_cons (gset 5 nd) pgs_nil)))) (ht := (fun _ _ _ _ _ => pts_one (pt_chain op_lt op_le (pv 4) (pv 3) (pv 5)))) (he := fun _ _ _ _ _ => pe_int)) (pe_lst pa_nil) (nomark _))
        (pss_one (ps_asg (pe_lst (pa_cons (pe_ix (ix_listK K) (pe_ix (ix_listK K) (pv 2) (pe_un un_neg pe_int) (fun _ _ => rfl)) pe_int (fun _ _ => rfl)) (pa_cons (pv 3) pa_nil))) (pg_sub (pv 2) (pe_un un_neg pe_int) set_list)))
        (pss_one (ps_expr (pe_bmK K PySem.F.plainAttrs_list PySem.F.slot_list_append PySem.F.type_list_append mt_append (pv 2) (pa_cons (pe_lst (pa_cons (pv 3) (pa_cons (pv 3) pa_nil))) pa_nil)))))))
      (pss_one (ps_ret (pe_lc (own := [("begin", 4), ("end", 5)]) (hc := rfl) (hN := nd) (hi := (pi_listK K (pv 2))) (ok := blkOk_by (by rfl)) (hg := fun _ _ _ _ _ => (pg_unlK K 2 rfl (pgs_cons (gset 4 nd) (pgs_cons (gset 5 nd) pgs_nil)))) (ht := (fun _ _ _ _ _ => pts_nil)) (he := fun _ _ _ _ _ => (pe_tup (pa_cons (pv 4) (pa_cons (pv 5) pa_nil))))))))), ?_⟩
  obtain ⟨n, rfl⟩ : ∃ m, n = m + 1 := ⟨n - 1, by omega⟩
  fail "ww"
  refine new_ fun t1 H1 n1 s1 h1 => ?_
  fail "ww"
  refine new_ fun l H2 n2 s2 h2 => ?_
  fail "ww"
  have nl : H l = none := by fail "kpz"
  have ht12 : H2 t1 = some (.lst [.int 1, .int 1]) := by fail "kp"
  refine ⟨⟨by omega, by omega, by omega, by omega⟩, ?_⟩
  refine forF walk_range (fun i σ' H' => ∃ (y3 y4 y5 : Option V) (as : List Addr) (t : Addr), σ' = [some (.int (((n + 1 : Nat)) : Int)), some (.ref b), some (.ref l), y3, y4, y5] ∧ Same H H' ∧ H' l = some (.lst ((as ++ [t]).map V.ref)) ∧ Rws H' (as ++ [t]) (rowsC (blkP cs i)) ∧ (∀ u ∈ as ++ [t], u ≠ l))
    ⟨none, none, none, [], t1, rfl, by fail "kp", h2, Rws.one (l := [1, 1]) ht12, fun u hu => by rw [List.mem_singleton.mp hu]; exact ne_of_none h1 n2⟩ (fun _ _ _ _ _ => trivial) (fun i σ' H' hi p => ?_) (fun σ' H' p => ?_)
  · clear ht12 h2 n2 h1 n1 s1 s2
    obtain ⟨y3, y4, y5, as, t, rfl, s, hL, hR, hul⟩ := p
    fail "ww"
    intro D nD
    refine lc_it (walk_list (xs := ts.map V.ref)) (fun j Hj => Same H' Hj ∧ Hj D = some (.lst (((hitU cs (i + 1) j).map fun _ => (1 : Int)).map V.int))) ⟨same_new nD, upd_same⟩ (fun j Hj _ p => ?_) (fun j x Hj Hj' hj p y => ?_) (fun H3 p => ?_)
    · obtain ⟨s, _⟩ := p; fail "kp"
    · obtain ⟨rfl, ey⟩ := y
      obtain ⟨sj, hDj⟩ := p
      have hj' : j < cs.length := by rw [← hC.len]; simpa using hj
      obtain ⟨t0, et, ht⟩ := hC.idx hj'
      rw [List.getElem?_map, et] at ey
      cases ey
      have hh := hit_succ (p := i + 1) hj'
      have hhl := hit_len cs (i + 1) j
      generalize cs[j] = c at ht hh
      fail "ww"
      refine ⟨rfl, ?_⟩
      fail "ww"
      refine r_dec (fun g1 => ?_) (fun g1 => ?_)
      · fail "ww"
        by_cases g2 : (2 : Int) + (i : Int) ≤ (c.2 : Int)
        · rw [decide_eq_true g2]
          fail "ww"
          rw [if_pos (by rw [decide_eq_true (by omega : c.1 ≤ i + 1), decide_eq_true (by omega : i + 1 < c.2)]; rfl)] at hh
          refine ⟨_, hDj, by rw [List.length_map, List.length_map]; exact size_lt (by omega), same_old sj nD, ?_⟩
          rw [hh, upd_same]; simp
        · rw [decide_eq_false g2]
          fail "ww"
          rw [if_neg (by rw [decide_eq_false (by omega : ¬ i + 1 < c.2)]; simp), List.append_nil] at hh
          rw [hh]
          exact ⟨sj, hDj⟩
      · fail "ww"
        rw [if_neg (by rw [decide_eq_false (by omega : ¬ c.1 ≤ i + 1)]; simp), List.append_nil] at hh
        rw [hh]
        exact ⟨sj, hDj⟩
    · obtain ⟨s3, hD⟩ := p
      rw [List.length_map, hC.len] at hD
      have nD0 : H D = none := s.free nD
      fail "ww"
      refine new_ fun e4 H4 n4 s4 h4 => ?_
      refine r_neL (ns := (hitU cs (i + 1) cs.length).map fun _ => (1 : Int)) (ms := []) (by fail "kp") (sq h4) ?_
      have hL4 : H4 l = some (.lst ((as ++ [t]).map V.ref)) := by fail "kp"
      have hR4 : Rws H4 (as ++ [t]) (rowsC (blkP cs i)) := by fail "kp"
      have s04 : Same H H4 := by fail "kp"
      have ha4 : as.length = (blkU cs i).1.length := by
        have := hR.len
        unfold rowsC blkP at this
        rw [List.length_append, List.length_map, List.length_append] at this
        simpa using this
      have hpl := blkP_len cs i
      clear s3 s4 s hL hR hD h4 nD n4
      fail "ww"
      by_cases hk : lnk cs (i + 1) = true
      · refine r_itN (fun z => (hit_nil cs (i + 1)).mp (List.map_eq_nil_iff.mp z) hk) ?_
        have ht4 : H4 t = some (.lst ([((blkU cs i).2 : Int), ((i + 1 : Nat) : Int)].map V.int)) := hR4.row (i := as.length) (by simp) (by unfold rowsC blkP; rw [List.map_append, List.getElem?_append_right (by rw [List.length_map, ha4]; exact Nat.le_refl _), List.length_map, ha4, Nat.sub_self]; rfl)
        fail "ww"
        refine r_ixL (sq hL4) last_at ?_
        fail "ww"
        refine r_ixL (sq ht4) rfl ?_
        fail "ww"
        refine new_ fun u H5 nu s5 hu => ?_
        have hL5 : H5 l = some (.lst ((as ++ [t]).map V.ref)) := by fail "kp"
        fail "ww"
        refine r_setL hL5 last_ix ?_
        rw [last_set]
        refine ⟨_, _, _, as, u, rfl, same_old (by fail "kp") nl, upd_same, ?_, fun v hv => ?_⟩
        · rw [blkP_yes hk, rowsC_app]
          have hR5 : Rws H5 (as ++ [t]) (rowsC (blkP cs i)) := by fail "kp"
          have hR6 : Rws H5 as (rowsC (blkU cs i).1) := by
            refine ⟨by unfold rowsC; rw [List.length_map, ha4], fun k v e => ?_⟩
            have hk' : k < as.length := (List.getElem?_eq_some_iff.mp e).1
            obtain ⟨x, e1, e2⟩ := hR5.at_ k v (by rw [List.getElem?_append_left hk']; exact e)
            unfold rowsC blkP at e1
            rw [List.map_append, List.getElem?_append_left (by rw [List.length_map, ← ha4]; exact hk')] at e1
            exact ⟨x, e1, e2⟩
          refine (Rws.app hR6 (Rws.one (l := [((blkU cs i).2 : Int), ((i + 2 : Nat) : Int)]) (by rw [hu, show (2 : Int) + (i : Int) = ((i + 2 : Nat) : Int) by omega]; rfl))).upd_ fun hm => ?_
          rcases List.mem_append.mp hm with z | z
          · exact hul _ (List.mem_append_left _ z) rfl
          · exact (ne_of_none hL4 nu) (List.mem_singleton.mp z)
        · rcases List.mem_append.mp hv with z | z
          · exact hul v (List.mem_append_left _ z)
          · rw [List.mem_singleton.mp z]; exact (ne_of_none hL4 nu).symm
      · refine r_itNF (by rw [(hit_nil cs (i + 1)).mpr hk]; rfl) ?_
        fail "ww"
        refine new_ fun u H5 nu s5 hu => ?_
        have hL5 : H5 l = some (.lst ((as ++ [t]).map V.ref)) := by fail "kp"
        fail "ww"
        refine r_append hL5 (by rw [List.length_map, List.length_append]; exact size_lt (by show _ + 1 < _; unfold blkP at hpl; rw [List.length_append] at hpl; simp only [List.length_singleton] at hpl; omega)) ?_
        fail "ww"
        refine ⟨_, _, _, as ++ [t], u, rfl, same_old (by fail "kp") nl, by rw [upd_same]; simp, ?_, fun v hv => ?_⟩
        · rw [blkP_no hk, rowsC_app]
          have hR5 : Rws H5 (as ++ [t]) (rowsC (blkP cs i)) := by fail "kp"
          refine (Rws.app hR5 (Rws.one (l := [((i + 2 : Nat) : Int), ((i + 2 : Nat) : Int)]) (by rw [hu, show (2 : Int) + (i : Int) = ((i + 2 : Nat) : Int) by omega]; rfl))).upd_ fun hm => ?_
          rcases List.mem_append.mp hm with z | z
          · exact hul _ z rfl
          · exact (ne_of_none hL4 nu) (List.mem_singleton.mp z)
        · rcases List.mem_append.mp hv with z | z
          · exact hul v z
          · rw [List.mem_singleton.mp z]; exact (ne_of_none hL4 nu).symm
  · obtain ⟨y3, y4, y5, as, t, rfl, s, hL, hR, hul⟩ := p
    rw [show ((((n + 1 : Nat) : Int)) + 1 - 2).toNat = n by omega, blkP_end hF] at hR
    clear ht12 h2 n2 h1 n1 s1 s2
    fail "ww"
    intro D nD
    generalize as ++ [t] = bs at hL hR hul
    refine lc_it (walk_list (xs := bs.map V.ref)) (CmI H' D (blkM (n + 1) cs)) (cmi_nil nD) (fun j Hj _ p => ?_) (fun j x Hj Hj' hj p y => ?_) (fun H3 p => ?_)
    · obtain ⟨_, _, _, sj, _⟩ := p; fail "kp"
    · obtain ⟨rfl, ey⟩ := y
      have p0 := p
      obtain ⟨_, _, _, sj, _⟩ := p
      have hlen := hR.len
      unfold rowsC at hlen
      rw [List.length_map] at hlen
      have hj' : j < (blkM (n + 1) cs).length := by rw [← hlen]; simpa using hj
      obtain ⟨t0, et, ht⟩ := hR.idx (i := j) (by unfold rowsC; rw [List.length_map]; exact hj')
      rw [List.getElem?_map, et] at ey
      cases ey
      unfold rowsC at ht
      rw [List.getElem_map] at ht
      have hg : (blkM (n + 1) cs)[j]? = some (blkM (n + 1) cs)[j] := List.getElem?_eq_getElem hj'
      generalize (blkM (n + 1) cs)[j] = c at ht hg
      have hbl : (blkM (n + 1) cs).length ≤ n + 1 := by rw [← blkP_end hF]; exact blkP_len cs n
      fail "ww"
      refine r_gunl (xs := [.int c.1, .int c.2]) (sq (sj _ _ ht)) rfl ?_
      fail "ww"
      refine ⟨rfl, ?_⟩
      fail "ww"
      refine new_ fun u H5 nu s5 hu => ?_
      exact cmi_put p0 nD hg (by omega) s5 nu hu
    · have hlen := hR.len
      unfold rowsC at hlen
      rw [List.length_map] at hlen
      obtain ⟨es, hD, s3, _, hE⟩ := cmi_end p (by rw [List.length_map, hlen])
      exact q _ D es (s.trans s3) (s.free nD) hD hE
def sp_law_rising (K : PySem.W.Frag) : Sp := fun vs H Q _ => ∃ (a b : Addr) (l : List Int) (us : List Addr) (bs : List Cmd), vs = [.ref a, .ref b] ∧ SqL K H a (l.map V.int) ∧ SqL K H b (us.map V.ref) ∧ Cm H us bs ∧ Fits l.length bs ∧ l.length ≤ 1000 ∧
  ∀ H', Same H H' → Q (.bl (risB bs l)) H'
theorem ok_law_rising (T : Txt K mg) : FnG P w K mg base CX0 1 T.law_rising_a T.law_rising_d ["line_here", "parts"] (sp_law_rising K) := by
  refine okG T.law_rising_F sc_law_rising (fun vs H Q E h => ?_) (fun cdv A ou t H vs Q E hG hr h => ?_)
  · obtain ⟨_, _, _, _, _, rfl, _⟩ := h; rfl
  have nd := sc_law_rising.nd
  obtain ⟨a, b, l, us, bs, rfl, hA, hB, hC, hF, hl, q⟩ := h
  refine ⟨_, (pss_cons (ps_for PassesOwn.never rfl (pi_listK K (pv 1)) (pg_tupK K 2 rfl (pgs_cons (gset 2 nd) (pgs_cons (gset 3 nd) pgs_nil)))
        (pss_cons (sset 4 nd (pe_slice (sl_listK K) (pv 0) (po_some (pe_op op_sub (pv 2) pe_int)) (po_some (pv 3))))
      (pss_one (ps_if (pt_cmpR (neDK K hr.units) (pv 4) (pe_callB (sortedK K) (by rfl) T.m_sorted (by decide +kernel) (pa_cons (pv 4) pa_nil)) (nomark _))
        (pss_one (ps_ret pe_bl))
        pss_nil))))
      (pss_one (ps_ret pe_bl))), ?_⟩
  fail "ww"
  refine forA (walk_list (xs := us.map V.ref)) (fun i σ' H' => ∃ (y2 y3 y4 : Option V), σ' = [some (.ref a), some (.ref b), y2, y3, y4] ∧ Same H H' ∧ ∀ j c, j < i → bs[j]? = some c → ((l.drop (c.1 - 1)).take (c.2 - (c.1 - 1))).Pairwise (· ≤ ·))
    ⟨none, none, none, rfl, Same.refl _, fun j c h => absurd h (Nat.not_lt_zero _)⟩ (fun i σ' H' _ p' => ?_) (fun i σ' H' hi p' => ?_) (fun σ' H' p' => ?_)
  · obtain ⟨_, _, _, _, s, _⟩ := p'; exact s.seq hB
  · obtain ⟨y2, y3, y4, rfl, s, hj⟩ := p'
    have hi' : i < bs.length := by rw [← hC.len]; simpa using hi
    obtain ⟨t0, et, ht⟩ := hC.idx hi'
    have e1 : (us.map V.ref)[i] = .ref t0 := by
      have : (us.map V.ref)[i]? = some (.ref t0) := by rw [List.getElem?_map, et]; rfl
      rw [List.getElem?_eq_getElem hi] at this
      exact Option.some.inj this
    rw [e1]
    have hc := hF _ (List.getElem_mem hi')
    have hmem := List.getElem_mem hi'
    have hget := List.getElem?_eq_getElem hi'
    generalize bs[i] = c at ht hc hmem hget ⊢
    refine r_gtup (sqT (s _ _ ht)) rfl ?_
    fail "ww"
    refine n_slM (ns := l) (a := c.1 - 1) (c := c.2) (s.seq hA) (by omega) rfl (new_ fun q2 G2 m2 t2 g2 => ?_)
    fail "ww"
    refine n_sorted (sq g2) (new_ fun q3 G3 m3 t3 g3 => ?_)
    fail "ww"
    refine r_neL (sq (t3 _ _ g2)) (sq g3) ?_
    by_cases g : ((l.drop (c.1 - 1)).take (c.2 - (c.1 - 1))).Pairwise (· ≤ ·)
    · rw [decide_eq_true (srt_iff.mpr g)]
      fail "ww"
      refine ⟨_, _, _, rfl, s.trans (t2.trans t3), fun j d hd e => ?_⟩
      by_cases hji : j = i
      · subst hji; rw [hget] at e; cases e; exact g
      · exact hj j d (by omega) e
    · rw [decide_eq_false (fun z => g (srt_iff.mp z))]
      fail "ww"
      have : risB bs l = false := by
        unfold risB
        rw [List.all_eq_false]
        exact ⟨c, hmem, by rw [decide_eq_false g]; decide⟩
      rw [← this]
      exact q _ (s.trans (t2.trans t3))
  · obtain ⟨y2, y3, y4, rfl, s, hj⟩ := p'
    rw [List.length_map, hC.len] at hj
    fail "ww"
    have : risB bs l = true := by
      unfold risB
      rw [List.all_eq_true]
      intro c hc
      obtain ⟨j, hj', e⟩ := List.getElem_of_mem hc
      exact decide_eq_true (hj j c hj' (by rw [List.getElem?_eq_getElem hj', e]))
    rw [← this]
    exact q _ s
def sp_law_factorial (K : PySem.W.Frag) : Sp := fun vs H Q _ => ∃ (n : Nat), vs = [.int n] ∧ n ≤ 100 ∧ Q (.int (fac n : Nat)) H
theorem ok_law_factorial (T : Txt K mg) : FnG P w K mg base CX0 1 T.law_factorial_a T.law_factorial_d ["many"] (sp_law_factorial K) := by
  refine okG T.law_factorial_F sc_law_factorial (fun vs H Q E h => ?_) (fun cdv A ou t H vs Q E hG hr h => ?_)
  · obtain ⟨_, rfl, _⟩ := h; rfl
  have nd := sc_law_factorial.nd
  obtain ⟨n, rfl, hn, q⟩ := h
  refine ⟨_, (pss_cons (sset 1 nd pe_int)
      (pss_cons (ps_for PassesOwn.never rfl (pi_range2 (by rfl) T.m_range (pa_cons pe_int (pa_cons (pe_op op_add (pv 0) pe_int) pa_nil))) (gset 2 nd)
        (pss_one (sset 1 nd (pe_op op_mulW (pv 1) (pv 2)))))
      (pss_one (ps_ret (pv 1))))), ?_⟩
  fail "ww"
  refine ⟨⟨by omega, by omega, by omega, by omega⟩, ?_⟩
  refine forF walk_range (fun i σ' H' => ∃ (y2 : Option V) (_u : Unit), σ' = [some (.int (n : Int)), some (.int ((fac (1 + i) : Nat) : Int)), y2] ∧ H' = H) ⟨none, (), rfl, rfl⟩ (fun _ _ _ _ _ => trivial) (fun i σ' H' hi p => ?_) (fun σ' H' p => ?_)
  · obtain ⟨y2, _, rfl, rfl⟩ := p
    fail "ww"
    refine r_mulF (by omega) ?_
    fail "ww"
    exact ⟨_, (), rfl, rfl⟩
  · obtain ⟨y2, _, rfl, rfl⟩ := p
    fail "ww"
    have e : fac (1 + ((n : Int) + 1 - 2).toNat) = fac n := by
      match n with
      | 0 => rfl
      | k + 1 => congr 1; omega
    rw [e]; exact q
def sp_check_sized_script (K : PySem.W.Frag) : Sp := fun vs H Q _ => ∃ (n : Nat) (b : Addr) (ts : List Addr) (cs : List Cmd), vs = [.int n, .ref b] ∧ 1 ≤ n ∧ SqL K H b (ts.map V.ref) ∧ Cm H ts cs ∧ Fits n cs ∧ ∀ H', Same H H' → Q .non H'
theorem ok_check_sized_script (T : Txt K mg) : FnG P w K mg base CX0 2 T.check_sized_script_a T.check_sized_script_d ["size", "commands"] (sp_check_sized_script K) := by
  refine okG T.check_sized_script_F sc_check_sized_script (fun vs H Q E h => ?_) (fun cdv A ou t H vs Q E hG hr h => ?_)
  · obtain ⟨_, _, _, _, rfl, _⟩ := h; rfl
  have nd := sc_check_sized_script.nd
  obtain ⟨n, b, ts, cs, rfl, hn, hS, hC, hF, q⟩ := h
  refine ⟨_, (pss_cons (ps_expr (pe_callG (ok_check_size T) hG (hr.mono (by decide)) (by rfl) T.check_size_g T.check_size_F.kp T.check_size_b .nil pass0 (pa_cons (pv 0) pa_nil)))
      (pss_one (ps_expr (pe_callG (ok_check_script T) hG (hr.mono (by decide)) (by rfl) T.check_script_g T.check_script_F.kp T.check_script_b .nil pass0 (pa_cons (pv 0) (pa_cons (pv 1) pa_nil)))))), ?_⟩
  fail "g"
  refine ⟨n, rfl, hn, ?_⟩
  fail "g"
  refine ⟨n, b, ts, cs, rfl, hS, hC, hF, fun H' s => ?_⟩
  fail "g"
  exact q _ s
def sp_block_lengths (K : PySem.W.Frag) : Sp := fun vs H Q _ => ∃ (n : Nat) (b : Addr) (ts : List Addr) (cs : List Cmd), vs = [.int n, .ref b] ∧ 1 ≤ n ∧ n ≤ 1000 ∧ SqL K H b (ts.map V.ref) ∧ Cm H ts cs ∧ Fits n cs ∧
  ∀ (H' : Hp) (p : Addr), Same H H' → H p = none → H' p = some (.lst (((lenM n cs).map fun (k : Nat) => (k : Int)).map V.int)) → Q (.ref p) H'
theorem ok_block_lengths (T : Txt K mg) : FnG P w K mg base CX0 2 T.block_lengths_a T.block_lengths_d ["size", "commands"] (sp_block_lengths K) := by
  refine okG T.block_lengths_F sc_block_lengths (fun vs H Q E h => ?_) (fun cdv A ou t H vs Q E hG hr h => ?_)
  · obtain ⟨_, _, _, _, rfl, _⟩ := h; rfl
  have nd := sc_block_lengths.nd
  obtain ⟨n, b, ts, cs, rfl, hn1, hn, hB, hC, hF, q⟩ := h
  refine ⟨_, (pss_one (ps_ret (pe_lc (own := [("first", 2), ("last", 3)]) (hc := rfl) (hN := nd) (hi := (pi_listK K (pe_callG (ok_linked_blocks T) hG (hr.mono (by decide)) (by rfl) T.linked_blocks_g T.linked_blocks_F.kp T.linked_blocks_b .nil pass0 (pa_cons (pv 0) (pa_cons (pv 1) pa_nil))))) (ok := blkOk_by (by rfl)) (hg := fun _ _ _ _ _ => (pg_tupK K 2 rfl (pgs_cons (gset 2 nd) (pgs_cons (gset 3 nd) pgs_nil)))) (ht := (fun _ _ _ _ _ => pts_nil)) (he := fun _ _ _ _ _ => (pe_op op_add (pe_op op_sub (pv 3) (pv 2)) pe_int))))), ?_⟩
  fail "ww"
  refine ⟨n, b, ts, cs, rfl, hn, hB, hC, hF, fun H1 p us s1 np hp hU => ?_⟩
  have hle := (tile_le (blkM_ok hF hn1).1).2
  have hll := lenM_sum hF hn1
  have hbl : (blkM n cs).length ≤ n := by
    have : ∀ l : List Cmd, l.length ≤ (l.map fun c => c.2 - c.1 + 1).sum := fun l => by
      induction l with
      | nil => exact Nat.le_refl _
      | cons c r ih => rw [List.map_cons, List.sum_cons, List.length_cons]; omega
    have := this (blkM n cs)
    unfold lenM at hll
    omega
  fail "ww"
  intro D nD
  refine lc_it (walk_list (xs := us.map V.ref)) (fun j Hj => Same H1 Hj ∧ Hj D = some (.lst ((((blkM n cs).take j).map fun c => ((c.2 - c.1 + 1 : Nat) : Int)).map V.int))) ⟨same_new nD, upd_same⟩ (fun j Hj _ pp => sq (pp.1 _ _ hp)) (fun j x Hj Hj' hj pp y => ?_) (fun H2 pp => ?_)
  · obtain ⟨rfl, ey⟩ := y
    have hj' : j < (blkM n cs).length := by rw [← hU.len]; simpa using hj
    obtain ⟨t0, et, ht⟩ := hU.idx hj'
    rw [List.getElem?_map, et] at ey
    cases ey
    have hc := hle _ (List.getElem_mem hj')
    rw [take_one hj', List.map_append, List.map_append, List.map_singleton, List.map_singleton]
    generalize (blkM n cs)[j] = c at ht hc ⊢
    refine r_gtup (sqT (pp.1 _ _ ht)) rfl ?_
    fail "ww"
    refine ⟨rfl, ?_⟩
    fail "ww"
    rw [show ((c.2 : Nat) : Int) - ((c.1 : Nat) : Int) + 1 = ((c.2 - c.1 + 1 : Nat) : Int) by omega]
    exact ⟨_, pp.2, by rw [List.length_map, List.length_map, List.length_take]; exact size_lt (by omega), same_old pp.1 nD, by rw [upd_same]⟩
  · rw [List.take_of_length_le (by rw [List.length_map, hU.len]; exact Nat.le_refl _)] at pp
    refine q _ D (s1.trans pp.1) (s1.free nD) ?_
    rw [pp.2]
    unfold lenM
    rw [List.map_map (g := fun (k : Nat) => (k : Int))]; rfl
def sp_unchanged_number (K : PySem.W.Frag) : Sp := fun vs H Q _ => ∃ (b a : Addr) (n : Nat) (l : List Int) (ts : List Addr) (cs : List Cmd), vs = [.ref b, .ref a] ∧ 1 ≤ n ∧ n ≤ 100 ∧ SqL K H b (ts.map V.ref) ∧ Cm H ts cs ∧ Fits n cs ∧ H a = some (.lst (l.map V.int)) ∧ l.Perm (ascN n) ∧
  ∀ (H' : Hp), Same H H' → (runM l cs ≠ l → Q .non H') ∧ (runM l cs = l → Q (.int (eIx (lenM n cs) (ascN n) l : Nat)) H')
theorem ok_unchanged_number (T : Txt K mg) : FnG P w K mg base CX0 2 T.unchanged_number_a T.unchanged_number_d ["commands", "row"] (sp_unchanged_number K) := by
  refine okG T.unchanged_number_F sc_unchanged_number (fun vs H Q E h => ?_) (fun cdv A ou t H vs Q E hG hr h => ?_)
  · obtain ⟨_, _, _, _, _, _, rfl, _⟩ := h; rfl
  have nd := sc_unchanged_number.nd
  obtain ⟨b, a, n, l, ts, cs, rfl, hn1, hn, hB, hC, hF, hA, hL, q⟩ := h
  refine ⟨_, (pss_cons (ps_expr (pe_callG (ok_check_arrangement T) hG (hr.mono (by decide)) (by rfl) T.check_arrangement_g T.check_arrangement_F.kp T.check_arrangement_b .nil pass0 (pa_cons (pv 1) pa_nil)))
      (pss_cons (ps_expr (pe_callG (ok_check_script T) hG (hr.mono (by decide)) (by rfl) T.check_script_g T.check_script_F.kp T.check_script_b .nil pass0 (pa_cons (pe_callB (lenK K) (by rfl) T.m_len PySem.boot_len (pa_cons (pv 1) pa_nil)) (pa_cons (pv 0) pa_nil))))
      (pss_cons (ps_if (pt_cmpR (neDK K hr.units) (pe_callG (ok_sort_stretches T) hG (hr.mono (by decide)) (by rfl) T.sort_stretches_g T.sort_stretches_F.kp T.sort_stretches_b .nil pass0 (pa_cons (pv 1) (pa_cons (pv 0) pa_nil))) (pv 1) (nomark _))
        (pss_one (ps_ret pe_non))
        pss_nil)
      (pss_cons (sset 2 nd pe_int)
      (pss_cons (sset 3 nd (pe_callB (sortedK K) (by rfl) T.m_sorted (by decide +kernel) (pa_cons (pv 1) pa_nil)))
      (pss_cons (ps_for PassesOwn.never rfl (pi_listK K (pe_callG (ok_linked_blocks T) hG (hr.mono (by decide)) (by rfl) T.linked_blocks_g T.linked_blocks_F.kp T.linked_blocks_b .nil pass0 (pa_cons (pe_callB (lenK K) (by rfl) T.m_len PySem.boot_len (pa_cons (pv 1) pa_nil)) (pa_cons (pv 0) pa_nil)))) (pg_tupK K 2 rfl (pgs_cons (gset 4 nd) (pgs_cons (gset 5 nd) pgs_nil)))
        (pss_cons (sset 6 nd (pe_slice (sl_listK K) (pv 1) (po_some (pe_op op_sub (pv 4) pe_int)) (po_some (pv 5))))
      (pss_cons (saug 2 nd (pe_callBfun cr_comb (by rfl) T.g_comb (pa_cons (pe_callB (lenK K) (by rfl) T.m_len PySem.boot_len (pa_cons (pv 3) pa_nil)) (pa_cons (pe_callB (lenK K) (by rfl) T.m_len PySem.boot_len (pa_cons (pv 6) pa_nil)) pa_nil))) ip_mulW)
      (pss_cons (saug 2 nd (pe_callG (ok_choice_number T) hG (hr.mono (by decide)) (by rfl) T.choice_number_g T.choice_number_F.kp T.choice_number_b .nil pass0 (pa_cons (pv 3) (pa_cons (pv 6) pa_nil))) ip_add)
      (pss_one (ps_setLc (i := 3) (hy := rfl) (hyl := rfl) (hsw := sw_true rfl rfl rfl (by decide +kernel)) (own := [("value", 7)]) (hc := rfl) (hN := nd) (hi := (pi_listK K (pv 3))) (ok := blkOk_by (by rfl)) (hg := fun _ _ _ _ _ => (gset 7 nd)) (ht := (fun _ _ _ _ _ => pts_one (pt_cmpR (notInK K) (pv 7) (pv 6) (by rfl)))) (he := fun _ _ _ _ _ => (pv 7))))))))
      (pss_one (ps_ret (pv 2))))))))), ?_⟩
  have hll := perm_len hL
  fail "ww"
  refine ⟨a, l, rfl, sq hA, arr_asc hL, by omega, fun H1 s1 => ?_⟩
  fail "ww"
  rw [List.length_map, hll]
  refine ⟨n, b, ts, cs, rfl, s1.seq hB, hC.same s1, hF, fun H2 s2 => ?_⟩
  fail "ww"
  have s12 := s1.trans s2
  refine ⟨a, b, l, ts, cs, rfl, sq (s12 _ _ hA), s12.seq hB, hC.same s12, by omega, by rw [hll]; exact hF, fun H3 p3 s3 n3 h3 => ?_⟩
  fail "ww"
  have s13 := s12.trans s3
  refine r_neL (sq h3) (sq (s13 _ _ hA)) ?_
  fail "ww"
  refine r_ndec (fun hne => ?_) (fun heq => ?_)
  · fail "ww"
    exact (q _ s13).1 hne
  · fail "ww"
    refine n_sorted (sq (s13 _ _ hA)) ?_
    rw [srt_asc hL]
    refine new_ fun pv H4 nv s4 hv => ?_
    fail "ww"
    rw [List.length_map, hll]
    have s14 := s13.trans s4
    refine ⟨n, b, ts, cs, rfl, by omega, s14.seq hB, hC.same s14, hF, fun H5 p us s5 np hp hU => ?_⟩
    fail "ww"
    obtain ⟨tl0, _⟩ := blkM_ok hF hn1
    have hsum := lenM_sum hF hn1
    have hup := asc_lt n
    have hrise : Rise (lenM n cs) l := by
      have := (tile_rise (l := l) tl0 (Nat.le_refl 1) (by omega)).mpr ((fix_rise hF hn1 hll).mp heq)
      exact this
    have hIx := (enu_at (lenM n cs) hup (by rw [hsum, ascN_length']) hL hrise).2
    rw [ascN_length'] at hIx
    have hI7 : eIx (lenM n cs) (ascN n) l ≤ 2 ^ 700 := Nat.le_trans (Nat.le_of_lt hIx) (mulM_700 (by omega) hn)
    have hlm : lenM n cs = (blkM n cs).map fun c => c.2 - c.1 + 1 := rfl
    rw [hlm] at hrise hI7 hsum
    have q' := (q · · |>.2 heq)
    rw [hlm] at q'
    generalize blkM n cs = bl at *
    have s15 := s14.trans s5
    have hA5 := s15 _ _ hA
    have hv5 := s5 _ _ hv
    clear s1 s2 s12 s3 s13 s4 s14 s5 h3 n3 nv hv hIx
    refine forA (walk_list (xs := us.map V.ref)) (fun i σ' H' => ∃ (y4 y5 y6 y7 : Option V) (pv : Addr) (vals : List Int) (m st : Nat), σ' = [some (.ref b), some (.ref a), some (.int m), some (.ref pv), y4, y5, y6, y7] ∧ Same H5 H' ∧ H' pv = some (.lst (vals.map V.int)) ∧ vals.Pairwise (· < ·) ∧ 1 ≤ st ∧ Tile st (bl.drop i) (n + 1) ∧ (l.drop (st - 1)).Perm vals ∧ Rise ((bl.drop i).map fun c => c.2 - c.1 + 1) (l.drop (st - 1)) ∧
      m * mulM ((bl.drop i).map fun c => c.2 - c.1 + 1) vals.length + eIx ((bl.drop i).map fun c => c.2 - c.1 + 1) vals (l.drop (st - 1)) = eIx (bl.map fun c => c.2 - c.1 + 1) (ascN n) l)
      ⟨none, none, none, none, pv, ascN n, 0, 1, rfl, Same.refl _, hv5, hup, Nat.le_refl _, tl0, hL, hrise, by rw [Nat.zero_mul, Nat.zero_add]; rfl⟩ (fun i σ' H' _ p' => ?_) (fun i σ' H' hi p' => ?_) (fun σ' H' p' => ?_)
    · obtain ⟨_, _, _, _, _, _, _, _, _, s, _⟩ := p'; exact sq (s _ _ hp)
    · clear hv5
      obtain ⟨y4, y5, y6, y7, pv, vals, m, st, rfl, s, hv, hvu, hst, htl, hpm, hri, he⟩ := p'
      have hi' : i < bl.length := by rw [← hU.len]; simpa using hi
      obtain ⟨t0, et, ht⟩ := hU.idx hi'
      have e1 : (us.map V.ref)[i] = .ref t0 := by
        have : (us.map V.ref)[i]? = some (.ref t0) := by rw [List.getElem?_map, et]; rfl
        rw [List.getElem?_eq_getElem hi] at this
        exact Option.some.inj this
      rw [e1]
      rw [List.drop_eq_getElem_cons hi'] at htl hri he
      rw [List.map_cons] at hri he
      generalize bl[i] = c at *
      have hc1 := htl.1
      have hc2 := htl.2.1
      have htl2 := htl.2.2
      have hle := (tile_le htl2).1
      have hsm := tile_sum htl2
      generalize (bl.drop (i + 1)).map (fun c => c.2 - c.1 + 1) = ks' at *
      generalize hk0 : c.2 - c.1 + 1 = k0 at *
      have hdl : (l.drop (st - 1)).length = n - (st - 1) := by rw [List.length_drop, hll]
      have hvl : vals.length = n - (st - 1) := by rw [← hpm.length_eq, hdl]
      obtain ⟨cc, hcc, hl⟩ := List.mem_flatMap.mp ((enu_mem (k0 :: ks') hvu (by rw [List.sum_cons]; omega)).mpr ⟨hpm, hri⟩)
      obtain ⟨t, ht2, e⟩ := List.mem_map.mp hl
      obtain ⟨h1, h2⟩ := chs_mem.mp hcc
      have ec : (l.drop (st - 1)).take k0 = cc := by rw [← e, ← h2, List.take_left]
      have ed : (l.drop (st - 1)).drop k0 = t := by rw [← e, ← h2, List.drop_left]
      have hrl : (rest vals cc).length = vals.length - k0 := by rw [rest_len hvu h1, h2]
      obtain ⟨p1, p2⟩ := (enu_mem ks' (rest_up hvu) (by rw [hrl]; omega)).mp ht2
      have hidx : eIx (k0 :: ks') vals (l.drop (st - 1)) = chIx vals cc * mulM ks' (vals.length - k0) + eIx ks' (rest vals cc) t := by
        show chIx vals ((l.drop (st - 1)).take k0) * mulM ks' (vals.length - k0) + eIx ks' (rest vals ((l.drop (st - 1)).take k0)) ((l.drop (st - 1)).drop k0) = _
        rw [ec, ed]
      have hdef : mulM (k0 :: ks') vals.length = cmb vals.length k0 * mulM ks' (vals.length - k0) := rfl
      rw [hidx, hdef] at he
      have hq : 0 < mulM ks' (vals.length - k0) := mul_pos' ks' (by omega)
      have hcp := cmb_pos (show k0 ≤ vals.length by omega)
      have hcn : cmb vals.length k0 ≤ 2 ^ n := Nat.le_trans (cmb_le _ _) (Nat.pow_le_pow_right (by decide) (by omega))
      have hmb : m ≤ 2 ^ 700 := by
        have h3 : m * 1 ≤ m * (cmb vals.length k0 * mulM ks' (vals.length - k0)) := Nat.mul_le_mul_left _ (Nat.mul_pos hcp hq)
        omega
      have hAk := s _ _ hA5
      have hdd : l.drop (c.2 + 1 - 1) = t := by rw [← ed, List.drop_drop]; congr 1; omega
      refine r_gtup (sqT (s _ _ ht)) rfl ?_
      fail "ww"
      refine n_slM (ns := l) (a := st - 1) (c := c.2) (sq hAk) (by omega) rfl ?_
      rw [show c.2 - (st - 1) = k0 by omega, ec]
      refine new_ fun p6 H6 n6 s6 h6 => ?_
      have hv6 := s6 _ _ hv
      fail "ww"
      refine ⟨vals.length, k0, by rw [List.length_map, List.length_map, h2], by omega, by omega, ?_⟩
      fail "ww"
      refine r_I (wide_mul (a := 701) (b := n + 1) (nat_bound hmb) (nat_bound hcn) (by decide) (by omega) (by omega)) ?_
      fail "ww"
      refine ⟨pv, p6, vals, cc, rfl, hv6, h6, by omega, hvu, h1, fun H7 s7 => ?_⟩
      fail "ww"
      have hv7 := s7 _ _ hv6
      have h67 := s7 _ _ h6
      intro D nD
      refine lc_sameAI (walk_list (xs := vals.map V.int)) (fun j => (((vals.take j).filter fun v => !decide (v ∈ cc)).map V.int)) nD (Same.refl _) rfl (fun H s => sq (s _ _ hv7)) (fun j Hj hj pp => ?_) (fun H8 s8 hD => ?_)
      · have hcj := pp.1 _ _ h67
        fail "ww"
        refine ⟨rfl, ?_⟩
        fail "ww"
        refine ⟨p6, _, rfl, .inl (sq hcj), rfl, by rw [List.all_map, List.all_eq_true]; exact fun x _ => rfl, ?_⟩
        rw [inv_ints]
        refine ⟨_, rfl, ?_⟩
        by_cases hm : vals[j] ∈ cc
        · rw [decide_eq_true hm]
          refine r_nF ?_
          exact lc_skip pp (Same.refl _) (acc_filtF hj (by simp [hm]))
        · rw [decide_eq_false hm]
          refine r_nT ?_
          fail "ww"
          exact lc_add pp (Same.refl _) nD (acc_filtT hj (by simp [hm])) (filt_len (by omega))
      · rw [List.take_of_length_le (Nat.le_refl _)] at hD
        replace hD : H8 D = some (.lst ((rest vals cc).map V.int)) := hD
        rw [show ((m : Nat) : Int) * ((cmb vals.length k0 : Nat) : Int) + ((chIx vals cc : Nat) : Int) = ((m * cmb vals.length k0 + chIx vals cc : Nat) : Int) by rw [Int.natCast_add, Int.natCast_mul]]
        refine ⟨_, _, _, _, D, rest vals cc, m * cmb vals.length k0 + chIx vals cc, c.2 + 1, rfl, s.trans (s6.trans (s7.trans s8)), hD, rest_up hvu, by omega, htl2, by rw [hdd]; exact p1, by rw [hdd]; exact p2, ?_⟩
        rw [hdd, hrl, ← he, Nat.add_mul, Nat.mul_assoc]; omega
    · obtain ⟨y4, y5, y6, y7, pv, vals, m, st, rfl, s, hv, hvu, hst, htl, hpm, hri, he⟩ := p'
      rw [List.length_map, hU.len, List.drop_of_length_le (Nat.le_refl _)] at he
      replace he : m * 1 + 0 = eIx (bl.map fun c => c.2 - c.1 + 1) (ascN n) l := he
      fail "ww"
      rw [show m = eIx (bl.map fun c => c.2 - c.1 + 1) (ascN n) l by omega]
      exact q' _ (s15.trans s)
def sp_greatest_before (K : PySem.W.Frag) : Sp := fun vs H Q _ => ∃ (b a : Addr) (E : List Int) (n : Nat) (ts : List Addr) (cs : List Cmd), vs = [.ref b, .ref a] ∧ SqL K H b (ts.map V.ref) ∧ SqL K H a (E.map V.int) ∧ E.Perm (ascN n) ∧ 1 ≤ n ∧ n ≤ 1000 ∧ Cm H ts cs ∧ Fits n cs ∧
  ∀ (H' : Hp) (p : Addr), Same H H' → H p = none → H' p = some (.lst ((backM cs E).map V.int)) → Q (.ref p) H'
theorem ok_greatest_before (T : Txt K mg) : FnG P w K mg base CX0 2 T.greatest_before_a T.greatest_before_d ["commands", "row"] (sp_greatest_before K) := by
  refine okG T.greatest_before_F sc_greatest_before (fun vs H Q E h => ?_) (fun cdv A ou t H vs Q E hG hr h => ?_)
  · obtain ⟨_, _, _, _, _, _, rfl, _⟩ := h; rfl
  have nd := sc_greatest_before.nd
  obtain ⟨b, a, E, n, ts, cs, rfl, hB, hA, hE, hn, hn2, hC, hF, q⟩ := h
  refine ⟨_, (pss_cons (ps_expr (pe_callG (ok_check_arrangement T) hG (hr.mono (by decide)) (by rfl) T.check_arrangement_g T.check_arrangement_F.kp T.check_arrangement_b .nil pass0 (pa_cons (pv 1) pa_nil)))
      (pss_cons (ps_expr (pe_callG (ok_check_script T) hG (hr.mono (by decide)) (by rfl) T.check_script_g T.check_script_F.kp T.check_script_b .nil pass0 (pa_cons (pe_callB (lenK K) (by rfl) T.m_len PySem.boot_len (pa_cons (pv 1) pa_nil)) (pa_cons (pv 0) pa_nil))))
      (pss_cons (sset 2 nd (pe_callTy (listK K) (by rfl) T.m_list (by decide +kernel) (pa_cons (pv 1) pa_nil)))
      (pss_cons (ps_for PassesOwn.never rfl (pi_reversedK K (by rfl) T.m_reversed (pa_cons (pv 0) pa_nil)) (pg_tupK K 2 rfl (pgs_cons (gset 3 nd) (pgs_cons (gset 4 nd) pgs_nil)))
        (pss_one (ps_asg (pe_callBK (sortedRK K) (by rfl) T.m_sorted (by decide +kernel) (pa_cons (pe_slice (sl_listK K) (pv 2) (po_some (pe_op op_sub (pv 3) pe_int)) (po_some (pv 4))) pa_nil) (pk_cons pe_bl pk_nil)) (pg_slc (pv 2) (po_some (pe_op op_sub (pv 3) pe_int)) (po_some (pv 4))))))
      (pss_one (ps_ret (pv 2))))))), ?_⟩
  have hEl : E.length = n := by rw [hE.length_eq]; simp [ascN]
  fail "g"
  refine ⟨a, E, rfl, hA, arr_asc hE, by omega, fun H1 s1 => ?_⟩
  have hA1 := s1.seq hA
  have hB1 := s1.seq hB
  fail "g"
  rw [List.length_map, hEl]
  refine ⟨n, b, ts, cs, rfl, hB1, hC.same s1, hF, fun H2 s2 => ?_⟩
  have s12 := s1.trans s2
  have hA2 := s12.seq hA
  have hB2 := s12.seq hB
  have hC2 := hC.same s12
  fail "g"
  intro p np
  have np0 := s12.free np
  have s3 := s12.trans (same_new (o := .lst (E.map V.int)) np)
  have hB3 := s3.seq hB
  fail "g"
  refine forI (walk_rev (xs := ts.map V.ref)) (fun i σ' H' => ∃ (y3 y4 : Option V), σ' = [some (.ref b), some (.ref a), some (.ref p), y3, y4] ∧ Same H H' ∧ H' p = some (.lst ((backR (cs.reverse.take i) E).map V.int)))
    ⟨none, none, rfl, s3, upd_same⟩ (fun i σ' H' _ q => ?_) (fun i x σ' H' H2' hi q y => ?_) (fun σ' H' q' => ?_)
  · obtain ⟨_, _, _, s, _⟩ := q; exact s.seq hB
  · obtain ⟨rfl, ey⟩ := y
    obtain ⟨y3, y4, rfl, s, hP⟩ := q
    have htl : ts.length = cs.length := hC.len
    have hi' : i < cs.length := by rw [← hC.len]; simpa using hi
    have hj : cs.length - 1 - i < cs.length := by omega
    obtain ⟨t0, et, ht⟩ := hC.idx hj
    have e1 : x = .ref t0 := by
      rw [List.length_map, htl, List.getElem?_map, et] at ey
      exact (Option.some.inj ey).symm
    subst e1
    have hir : i < cs.reverse.length := by rw [List.length_reverse]; exact hi'
    have er : cs.reverse[i] = cs[cs.length - 1 - i] := List.getElem_reverse ..
    have hc := hF _ (List.getElem_mem hj)
    have ht1 := s _ _ ht
    have hft : Fits E.length (cs.reverse.take i) := by rw [hEl]; exact hF.rev.take
    have hlenP : (backR (cs.reverse.take i) E).length = n := by rw [(backR_perm _ _ hft).length_eq, hEl]
    rw [take_one hir, backR_snoc, er]
    generalize backR (cs.reverse.take i) E = cur at hP hlenP ⊢
    generalize cs[cs.length - 1 - i] = c at hc ht ht1 ⊢
    fail "g"
    intro l0 n0
    rw [cut_mid (a := c.1 - 1) (b := c.2) (by omega) rfl (by rw [List.length_map]; omega), ← List.map_drop, ← List.map_take] at *
    fail "g"
    refine ⟨l0, _, rfl, rfl, sq upd_same, fun ns' l1 hperm hup n1 => ?_⟩
    have e2 : ns' = (srt ((cur.drop (c.1 - 1)).take (c.2 - (c.1 - 1)))).reverse := down_is hperm hup
    subst e2
    fail "g"
    have hP2 := upd_old (o := .lst (((srt ((cur.drop (c.1 - 1)).take (c.2 - (c.1 - 1)))).reverse).map V.int)) n1 (upd_old (o := .lst (((cur.drop (c.1 - 1)).take (c.2 - (c.1 - 1))).map V.int)) n0 hP)
    refine ⟨p, l1, _, _, _, _, rfl, rfl, rfl, rfl, hP2, upd_same, ne_of_none (upd_old n0 hP) n1, by omega, by omega, by rw [List.length_map]; omega, ?_, ?_⟩
    · rw [List.length_map, List.length_map, List.length_reverse, srt_len, List.length_take, List.length_drop]; exact size_le (by omega)
    · refine ⟨_, _, rfl, same_old ((s.trans (same_new n0)).trans (same_new n1)) np0, ?_⟩
      rw [upd_same]
      rw [show ((c.1 : Nat) - 1 : Int).toNat = c.1 - 1 by omega, show ((c.2 : Nat) : Int).toNat = c.2 by omega, ← List.map_take, ← List.map_drop, ← List.map_append, ← List.map_append]
      rfl
  · obtain ⟨y3, y4, rfl, s, hP⟩ := q'
    fail "g"
    rw [List.take_of_length_le (by rw [List.length_map, hC.len, List.length_reverse]; exact Nat.le_refl _)] at hP
    exact q _ _ s np0 hP
def sp_law_steps (K : PySem.W.Frag) : Sp := fun vs H Q _ => ∃ (r : Addr) (wide most m : Nat), vs = [.ref r, .int wide, .int most] ∧ Pol H r m ∧ 1 ≤ wide ∧ wide ≤ 1000 ∧ most ≤ 10000 ∧ m < 2 ^ 50 ∧
  ∀ (H' : Hp) (p : Addr) (ts : List Addr) (cs : List Cmd), Sx r H H' → H p = none → Pol H' r (m + 3 + 4 * most) → H' p = some (.lst (ts.map V.ref)) → Cm H' ts cs → Fits wide cs → cs.length ≤ most → Q (.ref p) H'
theorem ok_law_steps (T : Txt K mg) : FnG P w K mg base CX0 2 T.law_steps_a T.law_steps_d ["pool", "wide", "most"] (sp_law_steps K) := by
  refine okG T.law_steps_F sc_law_steps (fun vs H Q E h => ?_) (fun cdv A ou t H vs Q E hG hr h => ?_)
  · obtain ⟨_, _, _, _, rfl, _⟩ := h; rfl
  have nd := sc_law_steps.nd
  obtain ⟨r, wide, most, m, rfl, hR, hw1, hw, hmost, hm, q⟩ := h
  refine ⟨_, (pss_cons (ps_par (i := 3) (j := 4) (by rfl) nd rfl rfl (by decide) rfl rfl (pa_cons (pe_callG (ok_law_draw T) hG (hr.mono (by decide)) (by rfl) T.law_draw_g T.law_draw_F.kp T.law_draw_b .nil pass0 (pa_cons (pv 0) (pa_cons pe_int pa_nil))) (pa_cons (pe_lst pa_nil) pa_nil)) (by rfl))
      (pss_cons (sset 5 nd (pe_op op_add pe_int (pe_callG (ok_law_draw T) hG (hr.mono (by decide)) (by rfl) T.law_draw_g T.law_draw_F.kp T.law_draw_b .nil pass0 (pa_cons (pv 0) (pa_cons (pv 1) pa_nil)))))
      (pss_cons (ps_for PassesOwn.never rfl (pi_range1 (by rfl) T.m_range (pa_cons (pe_callG (ok_law_draw T) hG (hr.mono (by decide)) (by rfl) T.law_draw_g T.law_draw_F.kp T.law_draw_b .nil pass0 (pa_cons (pv 0) (pa_cons (pe_op op_add (pv 2) pe_int) pa_nil))) pa_nil)) (gset 6 nd)
        (pss_cons (sset 7 nd (pe_op op_add pe_int (pe_callG (ok_law_draw T) hG (hr.mono (by decide)) (by rfl) T.law_draw_g T.law_draw_F.kp T.law_draw_b .nil pass0 (pa_cons (pv 0) (pa_cons (pv 1) pa_nil)))))
      (pss_cons (sset 8 nd (pe_callB (call_min2 rfl) (by rfl) T.m_min (by decide +kernel) (pa_cons (pv 1) (pa_cons (pe_op op_add (pv 7) (pe_ix (ix_listK K) (pe_lst (pa_cons (pe_callG (ok_law_draw T) hG (hr.mono (by decide)) (by rfl) T.law_draw_g T.law_draw_F.kp T.law_draw_b .nil pass0 (pa_cons (pv 0) (pa_cons (pv 1) pa_nil))) (pa_cons (pe_callG (ok_law_draw T) hG (hr.mono (by decide)) (by rfl) T.law_draw_g T.law_draw_F.kp T.law_draw_b .nil pass0 (pa_cons (pv 0) (pa_cons pe_int pa_nil))) (pa_cons pe_int (pa_cons (pv 1) (pa_cons (pe_callG (ok_law_draw T) hG (hr.mono (by decide)) (by rfl) T.law_draw_g T.law_draw_F.kp T.law_draw_b .nil pass0 (pa_cons (pv 0) (pa_cons pe_int pa_nil))) pa_nil)))))) (pv 3) (fun _ _ => rfl))) pa_nil))))
      (C8.pss_cut (ps_if (pt_cmpR op_eq (pv 3) pe_int (nomark _))
        (pss_one (ps_asg (pe_ix (ix_listK K) (pe_lst (pa_cons (pe_tup (pa_cons pe_int (pa_cons (pe_callB (call_min2 rfl) (by rfl) T.m_min (by decide +kernel) (pa_cons (pv 1) (pa_cons (pe_op op_add (pv 5) pe_int) pa_nil))) pa_nil))) (pa_cons (pe_tup (pa_cons (pv 5) (pa_cons (pv 1) pa_nil))) pa_nil))) (pe_op op_mod (pv 6) pe_int) (fun _ _ => rfl)) (pg_tupK K 2 rfl (pgs_cons (gset 7 nd) (pgs_cons (gset 8 nd) pgs_nil)))))
        pss_nil)
      (C8.pss_cut (ps_if (PW.pt (pw_and (pt_cmpR op_eq (pv 3) pe_int (nomark _)) (pw_and1 (pt_chain op_le op_lt (pv 7) (pv 5) (pv 8)))))
        (pss_one (sset 7 nd (pv 8)))
        pss_nil)
      (pss_one (ps_expr (pe_bmK K PySem.F.plainAttrs_list PySem.F.slot_list_append PySem.F.type_list_append mt_append (pv 4) (pa_cons (pe_tup (pa_cons (pv 7) (pa_cons (pv 8) pa_nil))) pa_nil)))))))))
      (pss_one (ps_ret (pv 4)))))), ?_⟩
  fail "ww"
  refine ⟨r, 5, m, rfl, hR, by omega, by decide, by decide, fun H1 w0 hw00 hw01 s1 hR1 => ?_⟩
  fail "ww"
  refine new_ fun p H2 np s2 hp => ?_
  fail "ww"
  have hpr : p ≠ r := by fail "kpn"
  refine ⟨r, wide, m + 1, rfl, by fail "kp", by omega, by omega, by omega, fun H3 c0 hc0 hc1 s3 hR3 => ?_⟩
  obtain ⟨c, rfl⟩ := Int.eq_ofNat_of_zero_le hc0
  fail "ww"
  refine ⟨r, _, m + 2, rfl, hR3, by omega, by omega, by omega, fun H4 n0 hn0 hn1 s4 hR4 => ?_⟩
  obtain ⟨n, rfl⟩ := Int.eq_ofNat_of_zero_le hn0
  fail "ww"
  refine ⟨by omega, by omega, ?_⟩
  have hp0 : H p = none := by fail "kpz"
  refine forF walk_range (fun i σ' H' => ∃ (ts : List Addr) (cs : List Cmd) (y6 y7 y8 : Option V), σ' = [some (.ref r), some (.int wide), some (.int most), some (.int w0), some (.ref p), some (.int (1 + (c : Int))), y6, y7, y8] ∧ cs.length = i ∧ H' p = some (.lst (ts.map V.ref)) ∧ Cm H' ts cs ∧ Fits wide cs ∧ Sx r H H' ∧ Pol H' r (m + 3 + 4 * i))
   ⟨[], [], none, none, none, rfl, rfl, (by fail "kp" : H4 p = some (.lst [])), Cm.nil, (fun c hc => by cases hc), by fail "kp", hR4⟩ (fun _ _ _ _ _ => trivial) (fun i σ' H' hi p' => ?_) (fun σ' H' p' => ?_)
  · clear s1 s2 s3 s4 hR1 hR3 hR4 hp np
    obtain ⟨ts, cs, y6, y7, y8, rfl, hlen, hP, hC, hF, sH, hRi⟩ := p'
    have hin : i < n := by simpa using hi
    fail "ww"
    refine ⟨r, wide, _, rfl, hRi, by omega, by omega, by omega, fun H5 b0 hb0 hb1 s5 hR5 => ?_⟩
    obtain ⟨b, rfl⟩ := Int.eq_ofNat_of_zero_le hb0
    fail "ww"
    refine ⟨r, wide, _, rfl, hR5, by omega, by omega, by omega, fun H6 d1 hd10 hd11 s6 hR6 => ?_⟩
    fail "ww"
    refine ⟨r, 4, _, rfl, hR6, by omega, by decide, by decide, fun H7 d2 hd20 hd21 s7 hR7 => ?_⟩
    fail "ww"
    refine ⟨r, 3, _, rfl, hR7, by omega, by decide, by decide, fun H8 d3 hd30 hd31 s8 hR8 => ?_⟩
    fail "ww"
    refine new_ fun lx H9 nx s9 hx => ?_
    obtain ⟨L, hat, hL0⟩ : ∃ L : Int, atI [V.int d1, V.int d2, V.int 1, V.int (wide : Int), V.int d3] w0 = some (.int L) ∧ 0 ≤ L := by
      have : w0 = 0 ∨ w0 = 1 ∨ w0 = 2 ∨ w0 = 3 ∨ w0 = 4 := by omega
      rcases this with h | h | h | h | h <;> subst h
      · exact ⟨_, rfl, hd10⟩
      · exact ⟨_, rfl, hd20⟩
      · exact ⟨_, rfl, by omega⟩
      · exact ⟨_, rfl, by omega⟩
      · exact ⟨_, rfl, hd30⟩
    fail "ww"
    refine r_ixL (sq hx) hat ?_
    fail "ww"
    obtain ⟨E, hE, hE1, hE2⟩ : ∃ E : Nat, (if 1 + (b : Int) + L < (wide : Int) then 1 + (b : Int) + L else (wide : Int)) = (E : Int) ∧ 1 + b ≤ E ∧ E ≤ wide := by
      split
      · obtain ⟨l, rfl⟩ := Int.eq_ofNat_of_zero_le hL0
        exact ⟨1 + b + l, by omega, by omega, by omega⟩
      · exact ⟨wide, rfl, by omega, by omega⟩
    rw [hE]
    have hP9 : H9 p = some (.lst (ts.map V.ref)) := by fail "kp"
    have hC9 : Cm H9 ts cs := by fail "kp"
    have sH9 : Sx r H H9 := by fail "kp"
    have hR9 : Pol H9 r (m + 3 + 4 * (i + 1)) := (hR8.same s9).le (by omega)
    clear s5 s6 s7 s8 s9 hR5 hR6 hR7 hR8 hx nx hP hC sH hRi
    refine r_cut (fun σ' H' => ∃ (d : Cmd) (_u : Unit), σ' = [some (.ref r), some (.int wide), some (.int most), some (.int w0), some (.ref p), some (.int (1 + (c : Int))), some (.int (0 + (i : Int))), some (.int (d.1 : Nat)), some (.int (d.2 : Nat))] ∧ (1 ≤ d.1 ∧ d.1 ≤ d.2 ∧ d.2 ≤ wide) ∧ Same H9 H') ?_ (fun σ' H' p' => ?_)
    · fail "ww"
      refine r_dec (fun h3 => ?_) (fun h3 => ?_)
      · fail "ww"
        refine new_ fun t1 G1 m1 e1 g1 => ?_
        fail "ww"
        refine new_ fun t2 G2 m2 e2 g2 => ?_
        fail "ww"
        refine new_ fun l3 G3 m3 e3 g3 => ?_
        fail "ww"
        have hmod : (0 + (i : Int)) % 2 = 0 ∨ (0 + (i : Int)) % 2 = 1 := by omega
        rcases hmod with hh | hh <;> rw [hh]
        · refine r_ixL (sq g3) (v := .ref t1) rfl ?_
          obtain ⟨M, hM, hM1, hM2⟩ : ∃ M : Nat, (if 1 + (c : Int) + 1 < (wide : Int) then 1 + (c : Int) + 1 else (wide : Int)) = (M : Int) ∧ 1 ≤ M ∧ M ≤ wide := by
            split
            · exact ⟨1 + c + 1, by omega, by omega, by omega⟩
            · exact ⟨wide, rfl, by omega, by omega⟩
          rw [hM] at g1
          fail "ww"
          exact ⟨(1, M), (), rfl, ⟨Nat.le_refl _, hM1, hM2⟩, by fail "kp"⟩
        · refine r_ixL (sq g3) (v := .ref t2) rfl ?_
          fail "ww"
          exact ⟨(1 + c, wide), (), by simp, ⟨by show 1 ≤ 1 + c; omega, by show 1 + c ≤ wide; omega, Nat.le_refl _⟩, by fail "kp"⟩
      · fail "ww"
        exact ⟨(1 + b, E), (), by simp, ⟨by show 1 ≤ 1 + b; omega, hE1, hE2⟩, Same.refl _⟩
    · obtain ⟨d, _, rfl, hd, sd⟩ := p'
      refine r_cut (fun σ' H' => ∃ (d : Cmd) (_u : Unit), σ' = [some (.ref r), some (.int wide), some (.int most), some (.int w0), some (.ref p), some (.int (1 + (c : Int))), some (.int (0 + (i : Int))), some (.int (d.1 : Nat)), some (.int (d.2 : Nat))] ∧ (1 ≤ d.1 ∧ d.1 ≤ d.2 ∧ d.2 ≤ wide) ∧ Same H9 H') ?_ (fun σ' H' p' => ?_)
      · fail "ww"
        refine r_dec (fun h4 => ?_) (fun h4 => ?_)
        · fail "ww"
          refine r_dec (fun h5 => ?_) (fun h5 => ?_)
          · fail "ww"
            refine r_dec (fun h6 => ?_) (fun h6 => ?_)
            · fail "ww"
              exact ⟨(d.2, d.2), (), rfl, ⟨by show 1 ≤ d.2; omega, Nat.le_refl _, hd.2.2⟩, sd⟩
            · fail "ww"
              exact ⟨d, (), rfl, hd, sd⟩
          · fail "ww"
            exact ⟨d, (), rfl, hd, sd⟩
        · fail "ww"
          exact ⟨d, (), rfl, hd, sd⟩
      · obtain ⟨d, _, rfl, hd, sd⟩ := p'
        fail "ww"
        refine new_ fun t1 G1 m1 e1 g1 => ?_
        have hPG : G1 p = some (.lst (ts.map V.ref)) := by fail "kp"
        fail "ww"
        refine r_append hPG (by rw [List.length_map, hC9.len]; exact size_lt (by omega)) ?_
        fail "ww"
        refine ⟨ts ++ [t1], cs ++ [d], _, _, _, rfl, by rw [List.length_append, hlen]; rfl, by rw [upd_same, List.map_append]; rfl, ?_, ?_, Sx.old (by fail "kp") hp0, (Pol.other (by fail "kp") hpr)⟩
        · have : Cm G1 (ts ++ [t1]) (cs ++ [d]) := Cm.snoc (by fail "kp") g1
          exact this.put hPG
        · intro e he
          rcases List.mem_append.mp he with z | z
          · exact hF e z
          · rw [List.mem_singleton.mp z]; exact hd
  · obtain ⟨ts, cs, y6, y7, y8, rfl, hlen, hP, hC, hF, sH, hRi⟩ := p'
    rw [Int.toNat_natCast] at hlen hRi
    fail "ww"
    exact q _ _ ts cs sH hp0 (hRi.le (by omega)) hP hC hF (by omega)
def sp_law_line (K : PySem.W.Frag) : Sp := fun vs H Q _ => ∃ (r : Addr) (n m : Nat), vs = [.ref r, .int n] ∧ Pol H r m ∧ n ≤ 1000 ∧ m < 2 ^ 50 ∧
  ∀ (H' : Hp) (p : Addr) (l : List Int), Sx r H H' → H p = none → Pol H' r (m + n) → H' p = some (.lst (l.map V.int)) → l.Perm (ascN n) → Q (.ref p) H'
theorem ok_law_line (T : Txt K mg) : FnG P w K mg base CX0 2 T.law_line_a T.law_line_d ["pool", "wide"] (sp_law_line K) := by
  refine okG T.law_line_F sc_law_line (fun vs H Q E h => ?_) (fun cdv A ou t H vs Q E hG hr h => ?_)
  · obtain ⟨_, _, _, rfl, _⟩ := h; rfl
  have nd := sc_law_line.nd
  obtain ⟨r, n, m, rfl, hR, hn, hm, q⟩ := h
  refine ⟨_, (pss_cons (sset 2 nd (pe_listRg rfl (by rfl) T.m_list (prg_2 (by rfl) T.m_range pe_int (pe_op op_add (pv 1) pe_int))))
      (pss_one (ps_ret (pe_lc (own := [("spot", 3)]) (hc := rfl) (hN := nd) (hi := (pi_range1 (by rfl) T.m_range (pa_cons (pv 1) pa_nil))) (ok := blkOk_by (by rfl)) (hg := fun _ _ _ _ _ => (gset 3 nd)) (ht := (fun _ _ _ _ _ => pts_nil)) (he := fun _ _ _ _ _ => (pe_bmK K PySem.F.plainAttrs_list PySem.F.slot_list_pop PySem.F.type_list_pop mt_popAt (pv 2) (pa_cons (pe_callG (ok_law_draw T) hG (hr.mono (by decide)) (by rfl) T.law_draw_g T.law_draw_F.kp T.law_draw_b .nil pass0 (pa_cons (pv 0) (pa_cons (pe_callB (lenK K) (by rfl) T.m_len PySem.boot_len (pa_cons (pv 2) pa_nil)) pa_nil))) pa_nil))))))), ?_⟩
  fail "ww"
  refine ⟨RgOk.of_le (by omega) (by omega) (by omega) (by omega), new_map (rg_upTo n) (new_ fun l0 H1 nl s1 hl0 => ?_)⟩
  fail "ww"
  have hlr := hR.ne nl
  have hR1 := hR.same s1
  refine ⟨by omega, by omega, fun D nD => ?_⟩
  have hDr := hR1.ne nD
  have hDl : l0 ≠ D := ne_of_none hl0 nD
  have hD0 : H D = none := s1.free nD
  refine lc_it walk_range (fun i Hh => ∃ l1 l2 : List Int, l2.length = i ∧ l1.length + l2.length = n ∧ (l1 ++ l2).Perm (ascN n) ∧ Hh l0 = some (.lst (l1.map V.int)) ∧ Hh D = some (.lst (l2.map V.int)) ∧ Sx r H Hh ∧ Pol Hh r (m + i)) ?_ (fun _ _ _ _ => trivial) (fun i x Hh Hh' hi p y => ?_) (fun Hh p => ?_)
  · exact ⟨ascN n, [], rfl, by simp [ascN], by rw [List.append_nil], upd_to hDl hl0, upd_same, (sx_of s1).same (same_new nD), hR1.same (same_new nD)⟩
  · obtain ⟨rfl, ex⟩ := y
    obtain ⟨l1, l2, hl2, hlen, hperm, h1, h2, sx, hRh⟩ := p
    have hi' : i < n := by simpa using hi
    fail "ww"
    refine ⟨rfl, ?_⟩
    fail "ww"
    rw [List.length_map]
    refine ⟨r, _, m + i, rfl, hRh, by omega, by omega, by omega, fun H5 d hd0 hd1 s5 hR5 => ?_⟩
    obtain ⟨k, rfl⟩ := Int.eq_ofNat_of_zero_le hd0
    have hk : k < l1.length := by omega
    have h15 := s5 _ _ hlr h1
    have h25 := s5 _ _ hDr h2
    fail "ww"
    refine r_popAt (k := k) h15 rfl (y := .int l1[k]) (by simp [hk]) (by omega) ?_
    have h26 : (upd H5 l0 (.lst ((l1.map V.int).eraseIdx k))) D = some (.lst (l2.map V.int)) := upd_to hDl.symm h25
    have hl : (l1.eraseIdx k).length = l1.length - 1 := List.length_eraseIdx_of_lt hk
    have sx2 := sx.trans s5
    have e3 : ∀ b o, b ≠ r → b ≠ l0 → b ≠ D → H5 b = some o → (upd (upd H5 l0 (.lst ((l1.map V.int).eraseIdx k))) D (.lst (l2.map V.int ++ [.int l1[k]]))) b = some o := fun b o _ h2 h3 e => upd_to h3 (upd_to h2 e)
    refine ⟨_, h26, by rw [List.length_map]; exact size_lt (by omega), l1.eraseIdx k, l2 ++ [l1[k]], by rw [List.length_append, hl2]; rfl, by rw [List.length_append, hl, List.length_singleton]; omega, ?_, ?_, ?_, ?_, ?_⟩
    · refine List.Perm.trans ?_ hperm
      have e := erase_permI l1 k hk
      refine List.Perm.trans ?_ (e.append_right l2)
      rw [List.cons_append]
      refine List.Perm.trans (List.Perm.append_left _ (List.perm_append_comm)) ?_
      exact List.perm_middle
    · rw [← erase_mapI]
      exact upd_to hDl (upd_same.trans rfl)
    · rw [upd_same, List.map_append]; rfl
    · exact fun b o hb e => upd_to (ne_of_none e hD0) (upd_to (ne_of_none e nl) (sx2 b o hb e))
    · exact (hR5.other hlr).other hDr
  · obtain ⟨l1, l2, hl2, hlen, hperm, h1, h2, sx, hRh⟩ := p
    have e : l1 = [] := List.length_eq_zero_iff.mp (by have : l2.length = n := by simpa using hl2
                                                       omega)
    subst e
    fail "ww"
    exact q _ D l2 sx hD0 (hRh.le (by have : l2.length = n := by simpa using hl2
                                      omega)) h2 hperm
def sp_run (K : PySem.W.Frag) : Sp := fun vs H Q _ => ∃ (a b : Addr) (ns : List Int) (ts : List Addr) (cs : List Cmd), vs = [.ref a, .ref b] ∧ SqL K H a (ns.map V.int) ∧ SqL K H b (ts.map V.ref) ∧ Cm H ts cs ∧ 1 ≤ ns.length ∧ ns.length ≤ 1000 ∧ Fits ns.length cs ∧
  ∀ (H' : Hp) (p : Addr), Same H H' → H p = none → H' p = some (.lst ((runM ns cs).map V.int)) → Q (.ref p) H'
theorem ok_run (T : Txt K mg) : FnG P w K mg base CX0 3 T.run_a T.run_d ["row", "commands"] (sp_run K) := by
  refine okG T.run_F sc_run (fun vs H Q E h => ?_) (fun cdv A ou t H vs Q E hG hr h => ?_)
  · obtain ⟨_, _, _, _, _, rfl, _⟩ := h; rfl
  have nd := sc_run.nd
  obtain ⟨a, b, ns, ts, cs, rfl, hS, hB, hC, hn, hn2, hF, q⟩ := h
  refine ⟨_, (pss_cons (ps_expr (pe_callG (ok_check_sized_script T) hG (hr.mono (by decide)) (by rfl) T.check_sized_script_g T.check_sized_script_F.kp T.check_sized_script_b .nil pass0 (pa_cons (pe_callB (lenK K) (by rfl) T.m_len PySem.boot_len (pa_cons (pv 0) pa_nil)) (pa_cons (pv 1) pa_nil))))
      (pss_one (ps_ret (pe_callG (ok_sort_stretches T) hG (hr.mono (by decide)) (by rfl) T.sort_stretches_g T.sort_stretches_F.kp T.sort_stretches_b .nil pass0 (pa_cons (pv 0) (pa_cons (pv 1) pa_nil)))))), ?_⟩
  fail "g"
  rw [List.length_map]
  refine ⟨ns.length, b, ts, cs, rfl, hn, hB, hC, hF, fun H1 s1 => ?_⟩
  fail "g"
  refine ⟨a, b, ns, ts, cs, rfl, s1.seq hS, s1.seq hB, hC.same s1, hn2, hF, fun H2 p s2 np hP => ?_⟩
  fail "g"
  exact q _ p (s1.trans s2) (s1.free np) hP
def sp_blocks (K : PySem.W.Frag) : Sp := fun vs H Q _ => ∃ (n : Nat) (b : Addr) (ts : List Addr) (cs : List Cmd), vs = [.int n, .ref b] ∧ 1 ≤ n ∧ n ≤ 1000 ∧ SqL K H b (ts.map V.ref) ∧ Cm H ts cs ∧ Fits n cs ∧
  ∀ (H' : Hp) (p : Addr) (us : List Addr), Same H H' → H p = none → H' p = some (.lst (us.map V.ref)) → Cm H' us (blkM n cs) → Q (.ref p) H'
theorem ok_blocks (T : Txt K mg) : FnG P w K mg base CX0 3 T.blocks_a T.blocks_d ["size", "commands"] (sp_blocks K) := by
  refine okG T.blocks_F sc_blocks (fun vs H Q E h => ?_) (fun cdv A ou t H vs Q E hG hr h => ?_)
  · obtain ⟨_, _, _, _, rfl, _⟩ := h; rfl
  have nd := sc_blocks.nd
  obtain ⟨n, b, ts, cs, rfl, hn1, hn, hB, hC, hF, q⟩ := h
  refine ⟨_, (pss_cons (ps_expr (pe_callG (ok_check_sized_script T) hG (hr.mono (by decide)) (by rfl) T.check_sized_script_g T.check_sized_script_F.kp T.check_sized_script_b .nil pass0 (pa_cons (pv 0) (pa_cons (pv 1) pa_nil))))
      (pss_one (ps_ret (pe_callG (ok_linked_blocks T) hG (hr.mono (by decide)) (by rfl) T.linked_blocks_g T.linked_blocks_F.kp T.linked_blocks_b .nil pass0 (pa_cons (pv 0) (pa_cons (pv 1) pa_nil)))))), ?_⟩
  fail "ww"
  refine ⟨n, b, ts, cs, rfl, hn1, hB, hC, hF, fun H1 s1 => ?_⟩
  fail "ww"
  refine ⟨n, b, ts, cs, rfl, hn, by fail "kp", by fail "kp", hF, fun H2 p us s2 np hp hU => ?_⟩
  exact q _ p us (by fail "kp") (by fail "kpz") hp hU
def sp_count_unchanged (K : PySem.W.Frag) : Sp := fun vs H Q _ => ∃ (n : Nat) (b : Addr) (ts : List Addr) (cs : List Cmd), vs = [.int n, .ref b] ∧ 1 ≤ n ∧ n ≤ 100 ∧ SqL K H b (ts.map V.ref) ∧ Cm H ts cs ∧ Fits n cs ∧
  ∀ (H' : Hp), Same H H' → Q (.int (mulM (lenM n cs) n : Nat)) H'
theorem ok_count_unchanged (T : Txt K mg) : FnG P w K mg base CX0 3 T.count_unchanged_a T.count_unchanged_d ["size", "commands"] (sp_count_unchanged K) := by
  refine okG T.count_unchanged_F sc_count_unchanged (fun vs H Q E h => ?_) (fun cdv A ou t H vs Q E hG hr h => ?_)
  · obtain ⟨_, _, _, _, rfl, _⟩ := h; rfl
  have nd := sc_count_unchanged.nd
  obtain ⟨n, b, ts, cs, rfl, hn1, hn, hB, hC, hF, q⟩ := h
  refine ⟨_, (pss_cons (ps_expr (pe_callG (ok_check_sized_script T) hG (hr.mono (by decide)) (by rfl) T.check_sized_script_g T.check_sized_script_F.kp T.check_sized_script_b .nil pass0 (pa_cons (pv 0) (pa_cons (pv 1) pa_nil))))
      (pss_cons (sset 2 nd pe_int)
      (pss_cons (sset 3 nd (pv 0))
      (pss_cons (ps_for PassesOwn.never rfl (pi_listK K (pe_callG (ok_block_lengths T) hG (hr.mono (by decide)) (by rfl) T.block_lengths_g T.block_lengths_F.kp T.block_lengths_b .nil pass0 (pa_cons (pv 0) (pa_cons (pv 1) pa_nil)))) (gset 4 nd)
        (pss_cons (saug 2 nd (pe_callBfun cr_comb (by rfl) T.g_comb (pa_cons (pv 3) (pa_cons (pv 4) pa_nil))) ip_mulW)
      (pss_one (saug 3 nd (pv 4) ip_sub))))
      (pss_one (ps_ret (pv 2))))))), ?_⟩
  fail "ww"
  refine ⟨n, b, ts, cs, rfl, hn1, hB, hC, hF, fun H1 s1 => ?_⟩
  fail "ww"
  refine ⟨n, b, ts, cs, rfl, hn1, by omega, s1.seq hB, hC.same s1, hF, fun H2 p s2 np hp => ?_⟩
  have hsum := lenM_sum hF hn1
  have hlen : (lenM n cs).length ≤ n := by
    have : ∀ l : List Cmd, l.length ≤ (l.map fun c => c.2 - c.1 + 1).sum := fun l => by
      induction l with
      | nil => exact Nat.le_refl _
      | cons c r ih => rw [List.map_cons, List.sum_cons, List.length_cons]; omega
    have := this (blkM n cs)
    unfold lenM at hsum ⊢
    rw [List.length_map]
    omega
  generalize lenM n cs = ks at *
  fail "ww"
  refine forAI (walk_list (xs := (ks.map fun (k : Nat) => (k : Int)).map V.int)) (fun i σ' H' => ∃ (y4 : Option V) (m lf : Nat), σ' = [some (.int n), some (.ref b), some (.int m), some (.int lf), y4] ∧ Same H H' ∧ Same H2 H' ∧ m * mulM (ks.drop i) lf = mulM ks n ∧ (ks.drop i).sum = lf ∧ m ≤ 2 ^ (n * i) ∧ lf ≤ n)
    ⟨none, 1, n, rfl, s1.trans s2, Same.refl _, by rw [Nat.one_mul]; rfl, hsum, Nat.one_le_two_pow, Nat.le_refl _⟩ (fun i σ' H' _ p' => ?_) (fun i σ' H' hi p' => ?_) (fun σ' H' p' => ?_)
  · obtain ⟨_, _, _, _, _, s, _⟩ := p'; exact sq (s _ _ hp)
  · obtain ⟨y4, m, lf, rfl, s, s2', hm, hs, hb, hlf⟩ := p'
    have hi' : i < ks.length := by simpa using hi
    rw [List.drop_eq_getElem_cons hi'] at hm hs
    rw [List.sum_cons] at hs
    rw [List.getElem_map]
    generalize ks[i] = k at *
    have hcb := cmb_le lf k
    have hcn : cmb lf k ≤ 2 ^ n := Nat.le_trans hcb (Nat.pow_le_pow_right (by decide) hlf)
    have hni : n * i ≤ 100 * 100 := Nat.mul_le_mul hn (by omega)
    fail "ww"
    refine ⟨lf, k, rfl, by omega, by omega, ?_⟩
    fail "ww"
    refine r_I (wide_mul (a := n * i + 1) (b := n + 1) (nat_bound hb) (nat_bound hcn) (by omega) (by omega) (by omega)) ?_
    fail "ww"
    rw [show ((m : Nat) : Int) * ((cmb lf k : Nat) : Int) = ((m * cmb lf k : Nat) : Int) from (Int.natCast_mul _ _).symm, show ((lf : Nat) : Int) - ((k : Nat) : Int) = ((lf - k : Nat) : Int) by omega]
    refine ⟨_, m * cmb lf k, lf - k, rfl, s, s2', ?_, by omega, ?_, by omega⟩
    · rw [← hm, Nat.mul_assoc]; rfl
    · rw [Nat.mul_succ, Nat.pow_add]
      exact Nat.mul_le_mul hb hcn
  · obtain ⟨y4, m, lf, rfl, s, s2', hm, hs, hb, hlf⟩ := p'
    rw [List.length_map, List.length_map, List.drop_of_length_le (Nat.le_refl _)] at hm
    replace hm : m * 1 = mulM ks n := hm
    fail "ww"
    rw [show m = mulM ks n by omega]
    exact q _ s
def sp_is_result (K : PySem.W.Frag) : Sp := fun vs H Q _ => ∃ (b a : Addr) (E : List Int) (n : Nat) (ts : List Addr) (cs : List Cmd), vs = [.ref a, .ref b] ∧ SqL K H b (ts.map V.ref) ∧ SqL K H a (E.map V.int) ∧ E.Perm (ascN n) ∧ 1 ≤ n ∧ n ≤ 1000 ∧ Cm H ts cs ∧ Fits n cs ∧
  ∀ (H' : Hp), Same H H' → Q (.bl (decide (runM (backM cs E) cs = E))) H'
theorem ok_is_result (T : Txt K mg) : FnG P w K mg base CX0 3 T.is_result_a T.is_result_d ["row", "commands"] (sp_is_result K) := by
  refine okG T.is_result_F sc_is_result (fun vs H Q E h => ?_) (fun cdv A ou t H vs Q E hG hr h => ?_)
  · obtain ⟨_, _, _, _, _, _, rfl, _⟩ := h; rfl
  have nd := sc_is_result.nd
  obtain ⟨b, a, E, n, ts, cs, rfl, hB, hA, hE, hn, hn2, hC, hF, q⟩ := h
  refine ⟨_, (pss_cons (sset 2 nd (pe_callG (ok_greatest_before T) hG (hr.mono (by decide)) (by rfl) T.greatest_before_g T.greatest_before_F.kp T.greatest_before_b .nil pass0 (pa_cons (pv 1) (pa_cons (pv 0) pa_nil))))
      (pss_one (ps_ret (pe_cmpR (eqDK K hr.units) (pe_callG (ok_sort_stretches T) hG (hr.mono (by decide)) (by rfl) T.sort_stretches_g T.sort_stretches_F.kp T.sort_stretches_b .nil pass0 (pa_cons (pv 2) (pa_cons (pv 1) pa_nil))) (pv 0) (nomark _))))), ?_⟩
  have hEl : E.length = n := by rw [hE.length_eq]; simp [ascN]
  have hbl : (backM cs E).length = n := by rw [(backM_perm (by rw [hEl]; exact hF)).length_eq, hEl]
  fail "g"
  refine ⟨b, a, E, n, ts, cs, rfl, hB, hA, hE, hn, hn2, hC, hF, fun H1 p s1 np hP => ?_⟩
  fail "g"
  refine ⟨p, b, _, ts, cs, rfl, sq hP, s1.seq hB, hC.same s1, by omega, by rw [hbl]; exact hF, fun H2 p2 s2 np2 hP2 => ?_⟩
  fail "g"
  have s12 := s1.trans s2
  refine r_eqL (sq hP2) (s12.seq hA) ?_
  exact q _ s12
def sp_law_changed_right (K : PySem.W.Frag) : Sp := fun vs H Q _ => ∃ (r a b c : Addr) (n m : Nat) (ts us as : List Addr) (cs : List Cmd) (ls : List (List Int)) (_u _v : Unit), vs = [.ref r, .ref a, .ref b, .ref c] ∧ Pol H r m ∧ m < 2 ^ 45 ∧ 1 ≤ n ∧ n ≤ 60 ∧ H a = some (.lst (ts.map V.ref)) ∧ a ≠ r ∧ Cm H ts cs ∧ Fits n cs ∧ H b = some (.lst (us.map V.ref)) ∧ b ≠ r ∧ Cm H us (blkM n cs) ∧ H c = some (.lst (as.map V.ref)) ∧ c ≠ r ∧ Rws H as ls ∧ (∀ t ∈ as, t ≠ r) ∧ 1 ≤ ls.length ∧ ls.length ≤ 10 ∧ (∀ l ∈ ls, l.Perm (ascN n) ∧ runM l cs = l) ∧
  ∀ H', Sx r H H' → Pol H' r (m + 100) → Q (.bl true) H'
theorem ok_law_changed_right (T : Txt K mg) : FnG P w K mg base CX0 3 T.law_changed_right_a T.law_changed_right_d ["pool", "steps_here", "parts", "lines_here"] (sp_law_changed_right K) := by
  refine okG T.law_changed_right_F sc_law_changed_right (fun vs H Q E h => ?_) (fun cdv A ou t H vs Q E hG hr h => ?_)
  · obtain ⟨_, _, _, _, _, _, _, _, _, _, _, _, _, rfl, _⟩ := h; rfl
  have nd := sc_law_changed_right.nd
  obtain ⟨r, a, b, c, n, m, ts, us, as, cs, ls, _, _, rfl, hR, hm, hn1, hn, hA, har, hC, hF, hB, hbr, hU, hL, hcr, hW, hasr, hl1, hl2, hfx, k⟩ := h
  refine ⟨_, (pss_cons (sset 4 nd (pe_callG (ok_law_line T) hG (hr.mono (by decide)) (by rfl) T.law_line_g T.law_line_F.kp T.law_line_b .nil pass0 (pa_cons (pv 0) (pa_cons (pe_callB (lenK K) (by rfl) T.m_len PySem.boot_len (pa_cons (pe_ix (ix_listK K) (pv 3) pe_int (fun _ _ => rfl)) pa_nil)) pa_nil))))
      (C8.pss_cut (ps_if (pt_cmpR op_eq (pe_cmpR op_isN (pe_callG (ok_unchanged_number T) hG (hr.mono (by decide)) (by rfl) T.unchanged_number_g T.unchanged_number_F.kp T.unchanged_number_b .nil pass0 (pa_cons (pv 1) (pa_cons (pv 4) pa_nil))) pe_non (nomark _)) (pe_callG (ok_law_rising T) hG (hr.mono (by decide)) (by rfl) T.law_rising_g T.law_rising_F.kp T.law_rising_b .nil pass0 (pa_cons (pv 4) (pa_cons (pv 2) pa_nil))) (nomark _))
        (pss_one (ps_ret pe_bl))
        pss_nil)
      (pss_cons (ps_for PassesOwn.never rfl (pi_listK K (pv 3)) (gset 5 nd)
        (pss_cons (ps_asg (pe_ix (ix_listK K) (pv 2) (pe_callG (ok_law_draw T) hG (hr.mono (by decide)) (by rfl) T.law_draw_g T.law_draw_F.kp T.law_draw_b .nil pass0 (pa_cons (pv 0) (pa_cons (pe_callB (lenK K) (by rfl) T.m_len PySem.boot_len (pa_cons (pv 2) pa_nil)) pa_nil))) (fun _ _ => rfl)) (pg_tupK K 2 rfl (pgs_cons (gset 6 nd) (pgs_cons (gset 7 nd) pgs_nil))))
      (pss_one (ps_if (pt_cmpR op_lt (pv 6) (pv 7) (nomark _))
        (pss_cons (sset 8 nd (pe_op op_add (pv 6) (pe_callG (ok_law_draw T) hG (hr.mono (by decide)) (by rfl) T.law_draw_g T.law_draw_F.kp T.law_draw_b .nil pass0 (pa_cons (pv 0) (pa_cons (pe_op op_sub (pv 7) (pv 6)) pa_nil)))))
      (pss_cons (sset 9 nd (pe_op op_cat (pe_op op_cat (pe_slice (sl_listK K) (pv 5) po_none (po_some (pe_op op_sub (pv 8) pe_int))) (pe_lst (pa_cons (pe_ix (ix_listK K) (pv 5) (pv 8) (fun _ _ => rfl)) (pa_cons (pe_ix (ix_listK K) (pv 5) (pe_op op_sub (pv 8) pe_int) (fun _ _ => rfl)) pa_nil)))) (pe_slice (sl_listK K) (pv 5) (po_some (pe_op op_add (pv 8) pe_int)) po_none)))
      (pss_one (ps_if (pt_cmpR op_notN (pe_callG (ok_unchanged_number T) hG (hr.mono (by decide)) (by rfl) T.unchanged_number_g T.unchanged_number_F.kp T.unchanged_number_b .nil pass0 (pa_cons (pv 1) (pa_cons (pv 9) pa_nil))) pe_non (nomark _))
        (pss_one (ps_ret pe_bl))
        pss_nil))))
        pss_nil))))
      (pss_one (ps_ret pe_bl))))), ?_⟩
  have hlen := hW.len
  obtain ⟨t0, l0, et0, el0, ht0⟩ : ∃ t0 l0, as[0]? = some t0 ∧ ls[0]? = some l0 ∧ H t0 = some (.lst (l0.map V.int)) := by
    have h0 : 0 < as.length := by omega
    obtain ⟨l, e1, e2⟩ := hW.at_ 0 _ (List.getElem?_eq_getElem h0)
    exact ⟨_, l, List.getElem?_eq_getElem h0, e1, e2⟩
  have hl0 : l0.length = n := perm_len (hfx l0 (List.mem_of_getElem? el0)).1
  fail "ww"
  refine r_ixL (sq hL) (at_of (j := 0) rfl (by rw [List.getElem?_map, et0]; rfl)) ?_
  fail "ww"
  rw [List.length_map, hl0]
  refine ⟨r, n, m, rfl, hR, by omega, by omega, fun H1 p l s1 np hR1 hp hlp => ?_⟩
  have hll : l.length = n := perm_len hlp
  have hcut : Cm H1 ts cs := cm_sx s1 hR hC
  have hU1 := cm_sx s1 hR hU
  fail "ww"
  have hbf := blk_fits hF hn1
  refine r_cut (fun σ' H' => σ' = [some (.ref r), some (.ref a), some (.ref b), some (.ref c), some (.ref p), none, none, none, none, none] ∧ Same H1 H') ?_ (fun σ' H' p' => ?_)
  · fail "ww"
    refine ⟨a, p, n, l, ts, cs, rfl, hn1, by omega, sq (s1 _ _ har hA), hcut, hF, hp, hlp, fun H2 s2 => ⟨fun ne => ?_, fun e => ?_⟩⟩
    · fail "ww"
      refine ⟨rfl, ?_⟩
      fail "ww"
      refine ⟨p, b, l, us, blkM n cs, rfl, sq (s2 _ _ hp), sq (s2 _ _ (s1 _ _ hbr hB)), hU1.same s2, by rw [hll]; exact hbf, by omega, fun H3 s3 => ?_⟩
      rw [ris_iff hF hn1 hll, decide_eq_false ne, decide_eq_true rfl]
      refine r_eqB ?_
      fail "ww"
      exact ⟨rfl, s2.trans s3⟩
    · fail "ww"
      refine ⟨rfl, ?_⟩
      fail "ww"
      refine ⟨p, b, l, us, blkM n cs, rfl, sq (s2 _ _ hp), sq (s2 _ _ (s1 _ _ hbr hB)), hU1.same s2, by rw [hll]; exact hbf, by omega, fun H3 s3 => ?_⟩
      rw [ris_iff hF hn1 hll, decide_eq_true e, decide_eq_false (by intro z; cases z)]
      refine r_eqB ?_
      fail "ww"
      exact ⟨rfl, s2.trans s3⟩
  obtain ⟨rfl, s2⟩ := p'
  have x2 := s1.same s2
  have hR2 := hR1.same s2
  have hA2 := x2 _ _ har hA
  have hB2 := x2 _ _ hbr hB
  have hL2 := x2 _ _ hcr hL
  have hC2 := hcut.same s2
  have hU2 := hU1.same s2
  have hWx : ∀ {H' : Hp}, Sx r H H' → Rws H' as ls := fun x => ⟨hlen, fun i t e => let ⟨l, e1, e2⟩ := hW.at_ i t e; ⟨l, e1, x _ _ (hasr t (List.mem_of_getElem? e)) e2⟩⟩
  clear hcut hU1 s1 np hR1 hp s2
  fail "ww"
  refine forA (walk_list (xs := as.map V.ref)) (fun i σ' G => ∃ (y5 y6 y7 y8 y9 : Option V), σ' = [some (.ref r), some (.ref a), some (.ref b), some (.ref c), some (.ref p), y5, y6, y7, y8, y9] ∧ Sx r H' G ∧ Pol G r (m + n + 2 * i))
    ⟨none, none, none, none, none, rfl, Sx.refl, hR2⟩ (fun i σ' G _ p' => ?_) (fun i σ' G hi p' => ?_) (fun σ' G p' => ?_)
  · obtain ⟨_, _, _, _, _, _, s, _⟩ := p'; exact sq (s _ _ hcr hL2)
  · obtain ⟨y5, y6, y7, y8, y9, rfl, s, hRi⟩ := p'
    have hi' : i < as.length := by simpa using hi
    obtain ⟨l1, el1, ht1⟩ := (hWx (x2.trans s)).at_ i _ (List.getElem?_eq_getElem hi')
    have e1 : (us.map V.ref).length = (blkM n cs).length := by rw [List.length_map]; exact hU.len
    obtain ⟨hl1p, hl1f⟩ := hfx l1 (List.mem_of_getElem? el1)
    have hl1n : l1.length = n := perm_len hl1p
    have hi10 : i < 10 := by omega
    have e2 : (as.map V.ref)[i] = .ref as[i] := List.getElem_map _
    rw [e2]
    have hBi := s _ _ hbr hB2
    have hbl := blk_len hF hn1
    have hb1 : 1 ≤ (blkM n cs).length := by
      have := lenM_sum hF hn1
      unfold lenM at this
      cases e : blkM n cs with
      | nil => rw [e] at this; simp at this; omega
      | cons _ _ => simp
    fail "ww"
    rw [e1]
    refine ⟨r, _, _, rfl, hRi, by omega, by omega, by omega, fun H3 d d0 d1 s3 hR3 => ?_⟩
    obtain ⟨d, rfl⟩ := Int.eq_ofNat_of_zero_le d0
    have hd : d < (blkM n cs).length := by omega
    have s03 := s.trans s3
    have hU3 := cm_sx s03 hR2 hU2
    obtain ⟨tc, etc, htc⟩ := hU3.idx hd
    refine r_ixL (sq (s3 _ _ hbr hBi)) (at_of (j := d) rfl (by rw [List.getElem?_map, etc]; rfl)) ?_
    have hc := (tile_le (blkM_ok hF hn1).1).2 _ (List.getElem_mem hd)
    have hmem := List.getElem_mem hd
    generalize (blkM n cs)[d] = cm at htc hc hmem
    refine r_gtup (sqT htc) rfl ?_
    have ht3 := s3 _ _ (hasr _ (List.getElem_mem hi')) ht1
    fail "ww"
    refine r_dec (fun g => ?_) (fun g => ?_)
    · fail "ww"
      refine ⟨r, _, _, rfl, hR3, by omega, by omega, by omega, fun H4 q q0 q1 s4 hR4 => ?_⟩
      obtain ⟨q, rfl⟩ := Int.eq_ofNat_of_zero_le q0
      have s04 := s03.trans s4
      have ht4 := s4 _ _ (hasr _ (List.getElem_mem hi')) ht3
      obtain ⟨pp, hpp⟩ : ∃ pp, pp = cm.1 + q := ⟨_, rfl⟩
      have hpi : (cm.1 : Int) + (q : Int) = (pp : Int) := by omega
      have hp1 : 1 ≤ pp := by omega
      have hp2 : pp < l1.length := by omega
      fail "ww"
      rw [hpi]
      refine n_slT (sq ht4) (a := pp - 1) (by omega) (new_ fun v1 H5 n5 s5 h5 => ?_)
      fail "ww"
      refine r_ixL (sq (s5 _ _ ht4)) (at_of (j := pp) rfl (by rw [List.getElem?_map, List.getElem?_eq_getElem hp2]; rfl)) ?_
      fail "ww"
      refine r_ixL (sq (s5 _ _ ht4)) (at_of (j := pp - 1) (by omega) (by rw [List.getElem?_map, List.getElem?_eq_getElem (show pp - 1 < l1.length by omega)]; rfl)) ?_
      fail "ww"
      refine new_ fun v2 H6 n6 s6 h6 => ?_
      refine n_catI (ns := l1.take (pp - 1)) (ms := [l1[pp], l1[pp - 1]]) (s6 _ _ h5) h6 (by rw [List.length_take]; exact size_le (by simp; omega)) (new_ fun v3 H7 n7 s7 h7 => ?_)
      fail "ww"
      have s47 := s5.trans (s6.trans s7)
      refine n_slF (sq (s47 _ _ ht4)) (a := pp + 1) (by omega) (new_ fun v4 H8 n8 s8 h8 => ?_)
      refine n_catI (s8 _ _ h7) h8 (by rw [List.length_append, List.length_take, List.length_drop]; exact size_le (by simp; omega)) (new_ fun v5 H9 n9 s9 h9 => ?_)
      have eb : l1.take (pp - 1) ++ [l1[pp], l1[pp - 1]] ++ l1.drop (pp + 1) = bentM l1 pp := by
        unfold bentM
        simp [List.getD, hp2, show pp - 1 < l1.length by omega]
      rw [eb] at h9
      have s49 := s47.trans (s8.trans s9)
      have hA9 := s49 _ _ (s4 _ _ har (s3 _ _ har (s _ _ har hA2)))
      have hC9 := (cm_sx s04 hR2 hC2).same s49
      fail "ww"
      refine ⟨a, v5, n, bentM l1 pp, ts, cs, rfl, hn1, by omega, sq hA9, hC9, hF, h9, (bent_perm hp1 hp2).trans hl1p, fun Hx sx => ⟨fun _ => ?_, fun e => absurd e (bent_no hF hn1 hl1p hl1f hmem (by omega) (by omega))⟩⟩
      fail "ww"
      refine ⟨rfl, ?_⟩
      rw [decide_eq_true rfl]
      fail "ww"
      exact ⟨_, _, _, _, _, rfl, s04.same (s49.trans sx), (hR4.same (s49.trans sx)).le (by omega)⟩
    · fail "ww"
      exact ⟨_, _, _, _, _, rfl, s03, hR3.le (by omega)⟩
  · obtain ⟨y5, y6, y7, y8, y9, rfl, s, hRi⟩ := p'
    rw [List.length_map] at hRi
    fail "ww"
    exact k _ (x2.trans s) (hRi.le (by omega))
def sp_nth_unchanged (K : PySem.W.Frag) : Sp := fun vs H Q _ => ∃ (n : Nat) (b : Addr) (k : Nat) (ts : List Addr) (cs : List Cmd), vs = [.int n, .ref b, .int k] ∧ 1 ≤ n ∧ n ≤ 100 ∧ SqL K H b (ts.map V.ref) ∧ Cm H ts cs ∧ Fits n cs ∧ k < mulM (lenM n cs) n ∧
  ∀ (H' : Hp) (p : Addr) (l : List Int), Same H H' → H p = none → (enu (lenM n cs) (ascN n))[k]? = some l → H' p = some (.lst (l.map V.int)) → Q (.ref p) H'
theorem ok_nth_unchanged (T : Txt K mg) : FnG P w K mg base CX0 4 T.nth_unchanged_a T.nth_unchanged_d ["size", "commands", "number"] (sp_nth_unchanged K) := by
  refine okG T.nth_unchanged_F sc_nth_unchanged (fun vs H Q E h => ?_) (fun cdv A ou t H vs Q E hG hr h => ?_)
  · obtain ⟨_, _, _, _, _, rfl, _⟩ := h; rfl
  have nd := sc_nth_unchanged.nd
  obtain ⟨n, b, k, ts, cs, rfl, hn1, hn, hB, hC, hF, hk, q⟩ := h
  refine ⟨_, (pss_cons (sset 3 nd (pe_callG (ok_count_unchanged T) hG (hr.mono (by decide)) (by rfl) T.count_unchanged_g T.count_unchanged_F.kp T.count_unchanged_b .nil pass0 (pa_cons (pv 0) (pa_cons (pv 1) pa_nil))))
      (pss_cons (ps_if (PW.pt (pw_or (pt_cmpR op_lt (pv 2) pe_int (nomark _)) (pw_or1 (pt_cmpR op_ge (pv 2) (pv 3) (nomark _)))))
        (pss_one ps_never)
        pss_nil)
      (pss_cons (sset 4 nd (pe_lst pa_nil))
      (pss_cons (sset 5 nd (pe_listRg rfl (by rfl) T.m_list (prg_2 (by rfl) T.m_range pe_int (pe_op op_add (pv 0) pe_int))))
      (pss_cons (sset 6 nd (pv 2))
      (pss_cons (ps_for PassesOwn.never rfl (pi_listK K (pe_callG (ok_block_lengths T) hG (hr.mono (by decide)) (by rfl) T.block_lengths_g T.block_lengths_F.kp T.block_lengths_b .nil pass0 (pa_cons (pv 0) (pa_cons (pv 1) pa_nil)))) (gset 7 nd)
        (pss_cons (saug 3 nd (pe_callBfun cr_comb (by rfl) T.g_comb (pa_cons (pe_callB (lenK K) (by rfl) T.m_len PySem.boot_len (pa_cons (pv 5) pa_nil)) (pa_cons (pv 7) pa_nil))) ip_fdivW)
      (pss_cons (ps_asg (pe_callB call_divmodW (by rfl) T.m_divmod (by decide +kernel) (pa_cons (pv 6) (pa_cons (pv 3) pa_nil))) (pg_tupK K 2 rfl (pgs_cons (gset 8 nd) (pgs_cons (gset 6 nd) pgs_nil))))
      (pss_cons (sset 9 nd (pe_callG (ok_nth_choice T) hG (hr.mono (by decide)) (by rfl) T.nth_choice_g T.nth_choice_F.kp T.nth_choice_b .nil pass0 (pa_cons (pv 5) (pa_cons (pv 7) (pa_cons (pv 8) pa_nil)))))
      (pss_cons (ps_expr (pe_bmK K PySem.F.plainAttrs_list PySem.F.slot_list_extend PySem.F.type_list_extend mt_extend (pv 4) (pa_cons (pv 9) pa_nil)))
      (pss_one (ps_setLc (i := 5) (hy := rfl) (hyl := rfl) (hsw := sw_true rfl rfl rfl (by decide +kernel)) (own := [("value", 10)]) (hc := rfl) (hN := nd) (hi := (pi_listK K (pv 5))) (ok := blkOk_by (by rfl)) (hg := fun _ _ _ _ _ => (gset 10 nd)) (ht := (fun _ _ _ _ _ => pts_one (pt_cmpR (notInK K) (pv 10) (pv 9) (by rfl)))) (he := fun _ _ _ _ _ => (pv 10)))))))))
      (pss_one (ps_ret (pv 4))))))))), ?_⟩
  fail "ww"
  refine ⟨n, b, ts, cs, rfl, hn1, hn, hB, hC, hF, fun H1 s1 => ?_⟩
  fail "ww"
  rw [decide_eq_false (show ¬ ((k : Nat) : Int) < 0 by omega)]
  fail "ww"
  rw [decide_eq_false (show ¬ ((mulM (lenM n cs) n : Nat) : Int) ≤ ((k : Nat) : Int) by omega)]
  fail "ww"
  refine new_ fun l H2 nl s2 hl => ?_
  fail "ww"
  refine ⟨RgOk.of_le (by omega) (by omega) (by omega) (by omega), ?_⟩
  rw [show rgV 1 ((n : Int) + 1) = (ascN n).map V.int by unfold rgV ascN; rw [List.map_map, show ((n : Int) + 1 - 1).toNat = n by omega]; rfl]
  refine new_ fun pv H3 nv s3 hv => ?_
  fail "ww"
  have s13 := s1.trans (s2.trans s3)
  refine ⟨n, b, ts, cs, rfl, hn1, by omega, s13.seq hB, hC.same s13, hF, fun H4 p s4 np hp => ?_⟩
  fail "ww"
  have hsum := lenM_sum hF hn1
  have hup := asc_lt n
  have hlen : (lenM n cs).length ≤ n := by
    have : ∀ l : List Cmd, l.length ≤ (l.map fun c => c.2 - c.1 + 1).sum := fun l => by
      induction l with
      | nil => exact Nat.le_refl _
      | cons c r ih => rw [List.map_cons, List.sum_cons, List.length_cons]; omega
    have := this (blkM n cs)
    unfold lenM at hsum ⊢
    rw [List.length_map]
    omega
  have hkt : k < (enu (lenM n cs) (ascN n)).length := by rw [enu_len _ hup, ascN_length']; exact hk
  generalize lenM n cs = ks at *
  have s04 := s13.trans s4
  have nl0 : H l = none := s1.free nl
  have hl4 := s4 _ _ (s3 _ _ hl)
  have hv4 := s4 _ _ hv
  have hlv : pv ≠ l := (ne_of_none (s3 _ _ hl |> fun e => hl) nv).symm
  have hpl : p ≠ l := (ne_of_none (s3 _ _ hl) np).symm
  clear s1 s2 s3 s4 s13 hl hv nl nv
  refine forAI (walk_list (xs := (ks.map fun (k : Nat) => (k : Int)).map V.int)) (fun i σ' H' => ∃ (y7 y8 y9 y10 : Option V) (pv : Addr) (row vals t : List Int) (lf : Nat), σ' = [some (.int n), some (.ref b), some (.int k), some (.int (mulM (ks.drop i) vals.length : Nat)), some (.ref l), some (.ref pv), some (.int lf), y7, y8, y9, y10] ∧ Sx l H4 H' ∧ Same H H' ∧ pv ≠ l ∧ H' l = some (.lst (row.map V.int)) ∧ H' pv = some (.lst (vals.map V.int)) ∧ vals.Pairwise (· < ·) ∧ vals.length ≤ n ∧ row.length ≤ n ∧ row.length + vals.length = n ∧ (ks.drop i).sum = vals.length ∧ lf < mulM (ks.drop i) vals.length ∧ (enu (ks.drop i) vals)[lf]? = some t ∧ (enu ks (ascN n))[k]? = some (row ++ t))
    ⟨none, none, none, none, pv, [], ascN n, _, k, by rw [ascN_length']; rfl, Sx.refl, s04, hlv, hl4, hv4, hup, by rw [ascN_length']; exact Nat.le_refl _, Nat.zero_le _, by rw [ascN_length']; exact Nat.zero_add n, by rw [ascN_length']; exact hsum, by rw [ascN_length']; exact hk, List.getElem?_eq_getElem hkt, List.getElem?_eq_getElem hkt⟩ (fun i σ' H' _ p' => ?_) (fun i σ' H' hi p' => ?_) (fun σ' H' p' => ?_)
  · obtain ⟨_, _, _, _, _, _, _, _, _, _, s, _⟩ := p'; exact sq (s _ _ hpl hp)
  · clear s04 hl4 hv4 hlv
    obtain ⟨y7, y8, y9, y10, pv, row, vals, t, lf, rfl, sx, s, hlv, hl, hv, hvu, hvn, hrn, hrv, hs, hlf, ht, hc⟩ := p'
    have hi' : i < ks.length := by simpa using hi
    rw [List.drop_eq_getElem_cons hi'] at hs hlf ht ⊢
    rw [List.sum_cons] at hs
    rw [List.getElem_map]
    generalize ks[i] = k0 at *
    generalize ks.drop (i + 1) = ks' at *
    have hq : 0 < mulM ks' (vals.length - k0) := mul_pos' ks' (by omega)
    have hdef : mulM (k0 :: ks') vals.length = cmb vals.length k0 * mulM ks' (vals.length - k0) := rfl
    rw [hdef] at hlf ⊢
    have hcp := cmb_pos (show k0 ≤ vals.length by omega)
    have hcl := cmb_le vals.length k0
    have hcn : cmb vals.length k0 ≤ 2 ^ n := Nat.le_trans hcl (Nat.pow_le_pow_right (by decide) hvn)
    replace ht : ((chs vals k0).flatMap fun c => (enu ks' (rest vals c)).map fun t => c ++ t)[lf]? = some t := ht
    rw [flat_at hq (fun c hc => by
      obtain ⟨g1, g2⟩ := chs_mem.mp hc
      rw [List.length_map, enu_len ks' (rest_up hvu), rest_len hvu g1, g2])] at ht
    have hch : lf / mulM ks' (vals.length - k0) < cmb vals.length k0 := Nat.div_lt_of_lt_mul (by rw [Nat.mul_comm]; exact hlf)
    have hmod := Nat.mod_lt lf hq
    have hml : mulM ks' (vals.length - k0) ≤ 2 ^ 700 := mulM_700 (by omega) (by omega)
    fail "ww"
    refine ⟨vals.length, k0, by rw [List.length_map], by omega, by omega, ?_⟩
    fail "ww"
    refine r_I (wide_div (b := n + 1) (by omega) (nat_bound hcn) (by omega) (by omega)) ?_
    rw [show ((cmb vals.length k0 * mulM ks' (vals.length - k0) : Nat) : Int) / ((cmb vals.length k0 : Nat) : Int) = ((mulM ks' (vals.length - k0) : Nat) : Int) by
      rw [Int.natCast_mul]; exact Int.mul_ediv_cancel_left _ (by omega)]
    generalize hM : mulM ks' (vals.length - k0) = M at *
    fail "ww"
    have dv : CDivW ((lf : Nat) : Int) ((M : Nat) : Int) := wide_div (b := 701) (by omega) (nat_bound hml) (by decide) (by decide)
    refine ⟨⟨by omega, PyProof.noPylong_of_log2 dv.2⟩, fun T nT => ?_⟩
    have sT : Same H' (upd H' T (.tup [.int (((lf : Nat) : Int) / ((M : Nat) : Int)), .int (((lf : Nat) : Int) % ((M : Nat) : Int))])) := same_new nT
    have hT : upd H' T (.tup [.int (((lf : Nat) : Int) / ((M : Nat) : Int)), .int (((lf : Nat) : Int) % ((M : Nat) : Int))]) T = some (.tup [.int ((lf / M : Nat) : Int), .int ((lf % M : Nat) : Int)]) := upd_same
    generalize upd H' T (.tup [.int (((lf : Nat) : Int) / ((M : Nat) : Int)), .int (((lf : Nat) : Int) % ((M : Nat) : Int))]) = G0 at *
    refine r_gtup (sqT hT) rfl ?_
    fail "ww"
    have hlG := sT _ _ hl
    have hvG := sT _ _ hv
    refine ⟨pv, vals, k0, lf / M, rfl, hvG, by omega, by omega, hch, fun H6 p6 c s6 n6 hc6 h6 => ?_⟩
    rw [hc6] at ht
    replace ht : ((enu ks' (rest vals c)).map fun t => c ++ t)[lf % M]? = some t := ht
    rw [List.getElem?_map] at ht
    obtain ⟨t', ht', rfl⟩ := Option.map_eq_some_iff.mp ht
    obtain ⟨cs1, cs2⟩ := chs_mem.mp (List.mem_of_getElem? hc6)
    have hrl : (rest vals c).length = vals.length - k0 := by rw [rest_len hvu cs1, cs2]
    fail "ww"
    have hl6 := s6 _ _ hlG
    have hv6 := s6 _ _ hvG
    have h6l : p6 ≠ l := (ne_of_none hlG n6).symm
    refine r_extend hl6 h6 (by rw [List.length_map, List.length_map, cs2]; exact size_le (by omega)) ?_
    rw [← List.map_append]
    have s06 := sT.trans s6
    have hv7 : upd H6 l (.lst ((row ++ c).map V.int)) pv = some (.lst (vals.map V.int)) := upd_to hlv hv6
    have h67 : upd H6 l (.lst ((row ++ c).map V.int)) p6 = some (.lst (c.map V.int)) := upd_to h6l h6
    have hl7 : upd H6 l (.lst ((row ++ c).map V.int)) l = some (.lst ((row ++ c).map V.int)) := upd_same
    have sx7 : Sx l H4 (upd H6 l (.lst ((row ++ c).map V.int))) := (sx.same s06).trans Sx.put
    have s7 : Same H (upd H6 l (.lst ((row ++ c).map V.int))) := fun b' o' e' => upd_to (ne_of_none e' nl0) (s06 _ _ (s _ _ e'))
    generalize upd H6 l (.lst ((row ++ c).map V.int)) = G7 at *
    fail "ww"
    intro D nD
    refine lc_sameAI (walk_list (xs := vals.map V.int)) (fun j => (((vals.take j).filter fun v => !decide (v ∈ c)).map V.int)) nD (Same.refl _) rfl (fun H s => sq (s _ _ hv7)) (fun j Hj hj pp => ?_) (fun H8 s8 hD => ?_)
    · have hcj := pp.1 _ _ h67
      fail "ww"
      refine ⟨rfl, ?_⟩
      fail "ww"
      refine ⟨p6, _, rfl, .inl (sq hcj), rfl, by rw [List.all_map, List.all_eq_true]; exact fun x _ => rfl, ?_⟩
      rw [inv_ints]
      refine ⟨_, rfl, ?_⟩
      by_cases hm : vals[j] ∈ c
      · rw [decide_eq_true hm]
        refine r_nF ?_
        exact lc_skip pp (Same.refl _) (acc_filtF hj (by simp [hm]))
      · rw [decide_eq_false hm]
        refine r_nT ?_
        fail "ww"
        exact lc_add pp (Same.refl _) nD (acc_filtT hj (by simp [hm])) (filt_len (by omega))
    · rw [List.take_of_length_le (Nat.le_refl _)] at hD
      replace hD : H8 D = some (.lst ((rest vals c).map V.int)) := hD
      have hDl : D ≠ l := (ne_of_none hl7 nD).symm
      refine ⟨some (.int ((k0 : Nat) : Int)), some (.int ((lf / M : Nat) : Int)), some (.ref p6), y10, D, row ++ c, rest vals c, t', lf % M, ?_, sx7.same s8, s7.trans s8, hDl, s8 _ _ hl7, hD, rest_up hvu, by omega, by rw [List.length_append]; omega, by rw [List.length_append]; omega, by omega, by rw [hrl, hM]; exact hmod, ht', by rw [hc]; simp⟩
      rw [hrl, hM]; rfl
  · clear s04 hl4 hv4 hlv
    obtain ⟨y7, y8, y9, y10, pv, row, vals, t, lf, rfl, sx, s, hlv, hl, hv, hvu, hvn, hrn, hrv, hs, hlf, ht, hc⟩ := p'
    rw [List.length_map, List.length_map, List.drop_of_length_le (Nat.le_refl _)] at ht hs
    have et : t = [] := by
      cases lf with
      | zero => exact (Option.some.inj ht).symm
      | succ m => simp [enu] at ht
    subst et
    rw [List.append_nil] at hc
    fail "ww"
    exact q _ l row s nl0 hc hl
def sp_law_right (K : PySem.W.Frag) : Sp := fun vs H Q _ => ∃ (r : Addr) (n m : Nat), vs = [.ref r, .int n] ∧ Pol H r m ∧ m < 2 ^ 40 ∧ 1 ≤ n ∧ n ≤ 60 ∧ ∀ H', Sx r H H' → Pol H' r (m + 2000) → Q (.bl true) H'
theorem ok_law_right (T : Txt K mg) : FnG P w K mg base CX0 5 T.law_right_a T.law_right_d ["pool", "wide"] (sp_law_right K) := by
  refine okG T.law_right_F sc_law_right (fun vs H Q E h => ?_) (fun cdv A ou t H vs Q E hG hr h => ?_)
  · obtain ⟨_, _, _, rfl, _⟩ := h; rfl
  have nd := sc_law_right.nd
  obtain ⟨r, n, m, rfl, hR, hm, hn1, hn, k⟩ := h
  refine ⟨_, (pss_cons (sset 2 nd (pe_callG (ok_law_steps T) hG (hr.mono (by decide)) (by rfl) T.law_steps_g T.law_steps_F.kp T.law_steps_b .nil pass0 (pa_cons (pv 0) (pa_cons (pv 1) (pa_cons (pe_ix (ix_listK K) (pe_lst (pa_cons pe_int (pa_cons pe_int (pa_cons pe_int pa_nil)))) (pe_callG (ok_law_draw T) hG (hr.mono (by decide)) (by rfl) T.law_draw_g T.law_draw_F.kp T.law_draw_b .nil pass0 (pa_cons (pv 0) (pa_cons pe_int pa_nil))) (fun _ _ => rfl)) pa_nil)))))
      (pss_cons (ps_par (i := 3) (j := 4) (by rfl) nd rfl rfl (by decide) rfl rfl (pa_cons (pe_callG (ok_law_blocks T) hG (hr.mono (by decide)) (by rfl) T.law_blocks_g T.law_blocks_F.kp T.law_blocks_b .nil pass0 (pa_cons (pv 1) (pa_cons (pv 2) pa_nil))) (pa_cons (pe_callG (ok_law_factorial T) hG (hr.mono (by decide)) (by rfl) T.law_factorial_g T.law_factorial_F.kp T.law_factorial_b .nil pass0 (pa_cons (pv 1) pa_nil)) pa_nil)) (by rfl))
      (pss_cons (ps_for PassesOwn.never rfl (pi_listK K (pv 3)) (pg_tupK K 2 rfl (pgs_cons (gset 5 nd) (pgs_cons (gset 6 nd) pgs_nil)))
        (pss_one (sset 4 nd (pe_op op_fdivW (pv 4) (pe_callG (ok_law_factorial T) hG (hr.mono (by decide)) (by rfl) T.law_factorial_g T.law_factorial_F.kp T.law_factorial_b .nil pass0 (pa_cons (pe_op op_add (pe_op op_sub (pv 6) (pv 5)) pe_int) pa_nil))))))
      (pss_cons (ps_if (PW.pt (pw_or (pt_cmpR op_ne (pe_callB reprI (by rfl) T.m_repr (by decide +kernel) (pa_cons (pe_callG (ok_count_unchanged T) hG (hr.mono (by decide)) (by rfl) T.count_unchanged_g T.count_unchanged_F.kp T.count_unchanged_b .nil pass0 (pa_cons (pv 1) (pa_cons (pv 2) pa_nil))) pa_nil)) (pe_callB reprI (by rfl) T.m_repr (by decide +kernel) (pa_cons (pv 4) pa_nil)) (nomark _)) (pw_or1 (pt_cmpR (neDK K hr.units) (pe_callG (ok_blocks T) hG (hr.mono (by decide)) (by rfl) T.blocks_g T.blocks_F.kp T.blocks_b .nil pass0 (pa_cons (pv 1) (pa_cons (pv 2) pa_nil))) (pv 3) (nomark _)))))
        (pss_one (ps_ret pe_bl))
        pss_nil)
      (pss_cons (sset 7 nd (pe_callB (call_min2 rfl) (by rfl) T.m_min (by decide +kernel) (pa_cons (pv 4) (pa_cons (pe_op op_powW pe_int pe_int) pa_nil))))
      (pss_cons (sset 8 nd (pe_callG (ok_law_draw T) hG (hr.mono (by decide)) (by rfl) T.law_draw_g T.law_draw_F.kp T.law_draw_b .nil pass0 (pa_cons (pv 0) (pa_cons (pv 7) pa_nil))))
      (C8.pss_cut (sset 9 nd (pe_callB (sortedK K) (by rfl) T.m_sorted (by decide +kernel) (pa_cons (pe_slice (sl_listK K) (pe_lst (pa_cons pe_int (pa_cons (pe_op op_sub (pv 7) pe_int) (pa_cons (pv 8) (pa_cons (pe_callB (call_min2 rfl) (by rfl) T.m_min (by decide +kernel) (pa_cons (pe_op op_add (pv 8) pe_int) (pa_cons (pe_op op_sub (pv 7) pe_int) pa_nil))) pa_nil))))) (po_some (pe_op op_mulW pe_int (pe_callTy call_int1 (by rfl) T.m_int (by decide +kernel) (pa_cons (pe_cmpR op_gt (pv 1) pe_int (nomark _)) pa_nil)))) po_none) pa_nil)))
      (pss_cons (ps_setLc (i := 10) (hy := rfl) (hyl := rfl) (hsw := sw_true rfl rfl rfl (by decide +kernel)) (own := [("spot", 12)]) (hc := rfl) (hN := nd) (hi := (pi_listK K (pv 9))) (ok := blkOk_by (by rfl)) (hg := fun _ _ _ _ _ => (gset 12 nd)) (ht := (fun _ _ _ _ _ => pts_nil)) (he := fun _ _ _ _ _ => (pe_callG (ok_nth_unchanged T) hG (hr.mono (by decide)) (by rfl) T.nth_unchanged_g T.nth_unchanged_F.kp T.nth_unchanged_b .nil pass0 (pa_cons (pv 1) (pa_cons (pv 2) (pa_cons (pv 12) pa_nil))))))
      (pss_cons (ps_if (PW.pt (pw_or (pt_cmpR (neDK K hr.units) (pe_callB (sortedRwK (K := K) hr.units) (by rfl) T.m_sorted (by decide +kernel) (pa_cons (pv 10) pa_nil)) (pv 10) (nomark _)) (pw_or1 (pt_cmpR (neDK K hr.units) (pe_lc (own := [("one", 15)]) (hc := rfl) (hN := nd) (hi := (pi_listK K (pv 10))) (ok := blkOk_by (by rfl)) (hg := fun _ _ _ _ _ => (gset 15 nd)) (ht := (fun _ _ _ _ _ => pts_nil)) (he := fun _ _ _ _ _ => (pe_callG (ok_unchanged_number T) hG (hr.mono (by decide)) (by rfl) T.unchanged_number_g T.unchanged_number_F.kp T.unchanged_number_b .nil pass0 (pa_cons (pv 2) (pa_cons (pv 15) pa_nil))))) (pv 9) (nomark _)))))
        (pss_one (ps_ret pe_bl))
        pss_nil)
      (pss_cons (sset 11 nd (pe_callG (ok_law_line T) hG (hr.mono (by decide)) (by rfl) T.law_line_g T.law_line_F.kp T.law_line_b .nil pass0 (pa_cons (pv 0) (pa_cons (pv 1) pa_nil))))
      (pss_cons (ps_for PassesOwn.never rfl (pi_listK K (pv 3)) (pg_tupK K 2 rfl (pgs_cons (gset 5 nd) (pgs_cons (gset 6 nd) pgs_nil)))
        (pss_one (sset 11 nd (pe_op op_cat (pe_op op_cat (pe_slice (sl_listK K) (pv 11) po_none (po_some (pe_op op_sub (pv 5) pe_int))) (pe_callB (sortedK K) (by rfl) T.m_sorted (by decide +kernel) (pa_cons (pe_slice (sl_listK K) (pv 11) (po_some (pe_op op_sub (pv 5) pe_int)) (po_some (pv 6))) pa_nil))) (pe_slice (sl_listK K) (pv 11) (po_some (pv 6)) po_none)))))
      (pss_cons (sset 12 nd (pe_callG (ok_unchanged_number T) hG (hr.mono (by decide)) (by rfl) T.unchanged_number_g T.unchanged_number_F.kp T.unchanged_number_b .nil pass0 (pa_cons (pv 2) (pa_cons (pv 11) pa_nil))))
      (pss_cons (ps_if (PW.pt (pw_or (pt_cmpR op_isN (pv 12) pe_non (nomark _)) (pw_or1 (pt_cmpR (neDK K hr.units) (pe_callG (ok_nth_unchanged T) hG (hr.mono (by decide)) (by rfl) T.nth_unchanged_g T.nth_unchanged_F.kp T.nth_unchanged_b .nil pass0 (pa_cons (pv 1) (pa_cons (pv 2) (pa_cons (pv 12) pa_nil)))) (pv 11) (nomark _)))))
        (pss_one (ps_ret pe_bl))
        pss_nil)
      (pss_cons (ps_par (i := 13) (j := 14) (by rfl) nd rfl rfl (by decide) rfl rfl (pa_cons (pe_listRg rfl (by rfl) T.m_list (prg_2 (by rfl) T.m_range pe_int (pe_op op_add (pv 1) pe_int))) (pa_cons (pe_lst pa_nil) pa_nil)) (by rfl))
      (pss_cons (ps_for PassesOwn.never rfl (pi_listK K (pv 3)) (pg_tupK K 2 rfl (pgs_cons (gset 5 nd) (pgs_cons (gset 6 nd) pgs_nil)))
        (pss_cons (sset 14 nd (pe_op op_cat (pv 14) (pe_slice (sl_listK K) (pv 13) (po_some (pe_op op_sub (pe_callB (lenK K) (by rfl) T.m_len PySem.boot_len (pa_cons (pv 13) pa_nil)) (pe_op op_add (pe_op op_sub (pv 6) (pv 5)) pe_int))) po_none)))
      (pss_one (sset 13 nd (pe_slice (sl_listK K) (pv 13) po_none (po_some (pe_op op_sub (pe_callB (lenK K) (by rfl) T.m_len PySem.boot_len (pa_cons (pv 13) pa_nil)) (pe_op op_add (pe_op op_sub (pv 6) (pv 5)) pe_int))))))))
      (pss_cons (ps_if (PW.pt (pw_or (pt_cmpR op_ne (pe_callG (ok_unchanged_number T) hG (hr.mono (by decide)) (by rfl) T.unchanged_number_g T.unchanged_number_F.kp T.unchanged_number_b .nil pass0 (pa_cons (pv 2) (pa_cons (pv 14) pa_nil))) (pe_op op_sub (pv 4) pe_int) (nomark _)) (pw_or1 (pt_cmpR (neDK K hr.units) (pe_callG (ok_nth_unchanged T) hG (hr.mono (by decide)) (by rfl) T.nth_unchanged_g T.nth_unchanged_F.kp T.nth_unchanged_b .nil pass0 (pa_cons (pv 1) (pa_cons (pv 2) (pa_cons (pe_op op_sub (pv 4) pe_int) pa_nil)))) (pv 14) (nomark _)))))
        (pss_one (ps_ret pe_bl))
        pss_nil)
      (pss_cons (ps_for PassesOwn.never rfl (pi_listK K (pe_op op_cat (pv 10) (pe_lst (pa_cons (pv 11) (pa_cons (pv 14) pa_nil))))) (gset 15 nd)
        (pss_cons (ps_if (PW.pt (pw_or (pt_cmpR (neDK K hr.units) (pe_callB (sortedK K) (by rfl) T.m_sorted (by decide +kernel) (pa_cons (pv 15) pa_nil)) (pe_listRg rfl (by rfl) T.m_list (prg_2 (by rfl) T.m_range pe_int (pe_op op_add (pv 1) pe_int))) (nomark _)) (pw_or1 (pt_not (pt_val (pe_callG (ok_law_rising T) hG (hr.mono (by decide)) (by rfl) T.law_rising_g T.law_rising_F.kp T.law_rising_b .nil pass0 (pa_cons (pv 15) (pa_cons (pv 3) pa_nil))))))))
        (pss_one (ps_ret pe_bl))
        pss_nil)
      (pss_one (ps_if (PW.pt (pw_or (pt_cmpR (neDK K hr.units) (pe_callG (ok_run T) hG (hr.mono (by decide)) (by rfl) T.run_g T.run_F.kp T.run_b .nil pass0 (pa_cons (pv 15) (pa_cons (pv 2) pa_nil))) (pv 15) (nomark _)) (pw_or1 (pt_not (pt_val (pe_callG (ok_is_result T) hG (hr.mono (by decide)) (by rfl) T.is_result_g T.is_result_F.kp T.is_result_b .nil pass0 (pa_cons (pv 15) (pa_cons (pv 2) pa_nil))))))))
        (pss_one (ps_ret pe_bl))
        pss_nil))))
      (pss_cons (ps_if (pt_not (pt_val (pe_callG (ok_law_changed_right T) hG (hr.mono (by decide)) (by rfl) T.law_changed_right_g T.law_changed_right_F.kp T.law_changed_right_b .nil pass0 (pa_cons (pv 0) (pa_cons (pv 2) (pa_cons (pv 3) (pa_cons (pv 10) pa_nil)))))))
        (pss_one (ps_ret pe_bl))
        pss_nil)
      (pss_one (ps_ret (pe_cmpR (eqDK K hr.units) (pe_callG (ok_nth_unchanged T) hG (hr.mono (by decide)) (by rfl) T.nth_unchanged_g T.nth_unchanged_F.kp T.nth_unchanged_b .nil pass0 (pa_cons (pv 1) (pa_cons (pv 3) (pa_cons (pv 8) pa_nil)))) (pe_ix (ix_listK K) (pv 10) (pe_bmK K PySem.F.plainAttrs_list PySem.F.slot_list_index PySem.F.type_list_index (lindexK K) (pv 9) (pa_cons (pv 8) pa_nil)) (fun _ _ => rfl)) (nomark _)))))))))))))))))))))), ?_⟩
  fail "ww"
  refine new_ fun l1 H4 n4 s4 h4 => ?_
  have hl1 := hR.ne n4
  fail "ww"
  refine ⟨r, 3, _, rfl, hR.same s4, by omega, by decide, by decide, fun H5 d2 d20 d21 s5 hR5 => ?_⟩
  obtain ⟨most, hat, hmo⟩ : ∃ most : Nat, atI [V.int 2, V.int 8, V.int 60] d2 = some (.int (most : Int)) ∧ most ≤ 60 := by
    have : d2 = 0 ∨ d2 = 1 ∨ d2 = 2 := by omega
    rcases this with e | e | e <;> subst e
    · exact ⟨2, rfl, by decide⟩
    · exact ⟨8, rfl, by decide⟩
    · exact ⟨60, rfl, by decide⟩
  refine r_ixL (sq (s5 _ _ hl1 h4)) hat ?_
  have sx5 : Sx r H H5 := (Sx.refl.same s4).trans s5
  clear hat s5 s4 n4 h4 hl1 d20 d21 hR
  fail "ww"
  refine ⟨r, n, most, _, rfl, hR5, hn1, by omega, by omega, by omega, fun H6 S ts cs s6 nS hR6 hS hC hF hcl => ?_⟩
  have hSr := hR5.ne nS
  have sx6 := sx5.trans s6
  clear s6 nS hR5 sx5
  fail "ww"
  refine ⟨n, S, ts, cs, rfl, hn1, by omega, sq hS, hC, hF, by omega, fun H7 pb us s7 nb hb hU => ?_⟩
  fail "ww"
  refine ⟨n, rfl, by omega, ?_⟩
  have hbr := hR6.ne nb
  have hS7 := s7 _ _ hS
  have hC7 := hC.same s7
  have hR7 := hR6.same s7
  have sx7 := sx6.same s7
  have hbo := blkM_ok hF hn1
  have hble := (tile_le hbo.1).2
  have hbl := blk_len hF hn1
  have hsum := lenM_sum hF hn1
  have hbf := blk_fits hF hn1
  have hfac : fac n ≤ 2 ^ 800 := Nat.le_trans (fac_le (by omega)) (Nat.pow_le_pow_right (by decide) (by omega))
  clear s7 nb hS hC hR6 sx6
  fail "ww"
  have hlen : (lenM n cs).length = (blkM n cs).length := List.length_map ..
  have hwle : ∀ (ks : List Nat) (w : Nat), wholeM w ks ≤ w := fun ks => by
    induction ks with
    | nil => exact fun w => Nat.le_refl w
    | cons a t ih => exact fun w => Nat.le_trans (ih (w / fac a)) (Nat.div_le_self _ _)
  refine forA (walk_list (xs := us.map V.ref)) (fun i σ' G => ∃ (y5 y6 : Option V) (_u : Unit), σ' = [some (.ref r), some (.int (n : Int)), some (.ref S), some (.ref pb), some (.int ((wholeM (fac n) ((lenM n cs).take i) : Nat) : Int)), y5, y6, none, none, none, none, none, none, none, none, none] ∧ G = H7)
    ⟨none, none, (), rfl, rfl⟩ (fun i σ' G _ p' => ?_) (fun i σ' G hi p' => ?_) (fun σ' G p' => ?_)
  · obtain ⟨_, _, _, _, rfl⟩ := p'; exact sq hb
  · obtain ⟨y5, y6, _, rfl, rfl⟩ := p'
    have hi' : i < (blkM n cs).length := by rw [← hU.len]; simpa using hi
    obtain ⟨t0, et, ht⟩ := hU.idx hi'
    have e1 : (us.map V.ref)[i] = .ref t0 := by
      have : (us.map V.ref)[i]? = some (.ref t0) := by rw [List.getElem?_map, et]; rfl
      rw [List.getElem?_eq_getElem hi] at this
      exact Option.some.inj this
    rw [e1]
    have hc := hble _ (List.getElem_mem hi')
    have hw := hwle ((lenM n cs).take i) (fac n)
    have hnx : wholeM (fac n) ((lenM n cs).take (i + 1)) = wholeM (fac n) ((lenM n cs).take i) / fac ((blkM n cs)[i].2 - (blkM n cs)[i].1 + 1) := by
      rw [take_one (show i < (lenM n cs).length by rw [hlen]; exact hi')]
      unfold wholeM
      rw [List.foldl_append]
      simp [lenM]
    rw [hnx]
    generalize (blkM n cs)[i] = c at ht hc ⊢
    generalize wholeM (fac n) ((lenM n cs).take i) = W at hw ⊢
    refine r_gtup (sqT ht) rfl ?_
    fail "ww"
    rw [show ((c.2 : Nat) : Int) - ((c.1 : Nat) : Int) + 1 = ((c.2 - c.1 + 1 : Nat) : Int) by omega]
    have hfl : fac (c.2 - c.1 + 1) ≤ 2 ^ 800 := Nat.le_trans (fac_le (by omega)) (Nat.pow_le_pow_right (by decide) (by omega))
    have hfp := fac_pos (c.2 - c.1 + 1)
    refine ⟨_, rfl, by omega, ?_⟩
    refine ⟨_, _, rfl, rfl, wide_div (b := 801) (by omega) (nat_bound hfl) (by decide) (by decide), ?_⟩
    fail "ww"
    exact ⟨_, _, (), rfl, rfl⟩
  obtain ⟨y5, y6, _, rfl, rfl⟩ := p'
  rw [List.take_of_length_le (by rw [List.length_map, hlen, hU.len]; exact Nat.le_refl _)]
  have hwhole : wholeM (fac n) (lenM n cs) = mulM (lenM n cs) n := by
    have := whole_mul (lenM n cs) n 1 hsum
    rw [Nat.one_mul, Nat.one_mul] at this; exact this
  rw [hwhole]
  have hM7 : mulM (lenM n cs) n ≤ 2 ^ 700 := mulM_700 (Nat.le_of_eq hsum) (by omega)
  have hM1 : 1 ≤ mulM (lenM n cs) n := mul_pos' _ hsum
  obtain ⟨M, hM⟩ : ∃ M, mulM (lenM n cs) n = M := ⟨_, rfl⟩
  rw [hM] at hM7 hM1 ⊢
  clear hwle hwhole hfac
  fail "ww"
  refine ⟨n, S, ts, cs, rfl, hn1, by omega, sq hS7, hC7, hF, fun H8 s8 => ?_⟩
  rw [hM]
  fail "ww"
  refine r_reprI (k := 701) (nat_bound hM7) (by decide) ?_
  fail "ww"
  refine r_reprI (k := 701) (nat_bound hM7) (by decide) ?_
  fail "ww"
  refine r_itNF rfl ?_
  fail "ww"
  refine ⟨n, S, ts, cs, rfl, hn1, by omega, sq (s8 _ _ hS7), hC7.same s8, hF, fun H9 pc us2 s9 nc hc hU2 => ?_⟩
  have s89 := s8.trans s9
  fail "ww"
  refine r_neCs (sq hc) hU2 (sq (s89 _ _ hb)) (hU.same s89) ?_
  rw [decide_eq_true rfl]
  have hS9 := s89 _ _ hS7
  have hC9 := hC7.same s89
  have hb9 := s89 _ _ hb
  have hU9 := hU.same s89
  have hR9 := hR7.same s89
  have sx9 := sx7.same s89
  clear s8 s9 s89 hS7 hC7 hb hU hR7 sx7 nc hc hU2
  fail "ww"
  obtain ⟨T, hT, hT1, hT2, hT3⟩ : ∃ T : Nat, (if (10 : Int) ^ Int.toNat 30 < (M : Int) then (10 : Int) ^ Int.toNat 30 else (M : Int)) = (T : Int) ∧ 1 ≤ T ∧ T ≤ M ∧ T ≤ 10 ^ 30 := by
    have p30 : (10 : Int) ^ Int.toNat 30 = ((10 ^ 30 : Nat) : Int) := by decide
    have q30 : 0 < 10 ^ 30 := by decide
    rw [p30]
    generalize (10 : Nat) ^ 30 = B at q30
    split
    · exact ⟨B, rfl, by omega, by omega, by omega⟩
    · exact ⟨M, rfl, by omega, by omega, by omega⟩
  rw [hT]
  refine ⟨r, _, _, rfl, hR9, by omega, by omega, Int.lt_of_le_of_lt (Int.ofNat_le.mpr hT3) (by decide), fun H10 d d0 d1 s10 hR10 => ?_⟩
  obtain ⟨d, rfl⟩ := Int.eq_ofNat_of_zero_le d0
  have hdT : d < T := by omega
  have hS10 := s10 _ _ hSr hS9
  have hC10 := cm_sx s10 hR9 hC9
  have hb10 := s10 _ _ hbr hb9
  have hU10 := cm_sx s10 hR9 hU9
  have sx10 := sx9.trans s10
  clear s10 hS9 hC9 hb9 hU9 hR9 sx9 d0 d1 hT
  fail "ww"
  refine r_cut (fun σ' H' => ∃ (pS : Addr) (ss : List Int), σ' = [some (.ref r), some (.int (n : Int)), some (.ref S), some (.ref pb), some (.int (M : Int)), y5, y6, some (.int (T : Int)), some (.int (d : Int)), some (.ref pS), none, none, none, none, none, none] ∧ Same H10 H' ∧ H10 pS = none ∧ H' pS = some (.lst (ss.map V.int)) ∧ (∀ x ∈ ss, 0 ≤ x ∧ x < (T : Int)) ∧ ss.Pairwise (· ≤ ·) ∧ (d : Int) ∈ ss ∧ 1 ≤ ss.length ∧ ss.length ≤ 4) ?_ (fun σ' H11 p => ?_)
  · fail "ww"
    obtain ⟨e, he, heT⟩ : ∃ e : Nat, (if (T : Int) - 1 < (d : Int) + 1 then (T : Int) - 1 else (d : Int) + 1) = (e : Int) ∧ e < T := by
      split
      · exact ⟨T - 1, by omega, by omega⟩
      · exact ⟨d + 1, by omega, by omega⟩
    rw [he]
    refine new_ fun q1 H11 n11 s11 h11 => ?_
    have h11' : H11 q1 = some (.lst (([0, (T : Int) - 1, (d : Int), (e : Int)] : List Int).map V.int)) := h11
    have okL : ∀ L : List Int, (∀ x ∈ L, x ∈ ([0, (T : Int) - 1, (d : Int), (e : Int)] : List Int)) → ∀ x ∈ srt L, 0 ≤ x ∧ x < (T : Int) := fun L hL x hx => by
      have := hL x ((srt_perm L).mem_iff.mp hx)
      simp only [List.mem_cons, List.not_mem_nil, or_false] at this
      rcases this with e | e | e | e <;> omega
    fail "ww"
    by_cases g : (18 : Int) < (n : Int)
    · rw [decide_eq_true g, if_pos rfl]
      refine ⟨_, _, rfl, rfl, wide_mul (a := 3) (b := 3) (by decide) (by decide) (by decide) (by decide) (by decide), ?_⟩
      refine ⟨_, rfl, ?_⟩
      fail "ww"
      refine n_slF (sq h11') (a := 2) ?_ (new_ fun q2 H12 n12 s12 h12 => ?_)
      · rfl
      fail "ww"
      refine n_sorted (sq h12) (new_ fun pS H13 n13 s13 h13 => ?_)
      refine ⟨pS, _, rfl, s11.trans (s12.trans s13), (s11.trans s12).free n13, h13, okL _ (fun x hx => List.mem_of_mem_drop hx), srt_up _, (srt_perm _).mem_iff.mpr (by simp), ?_, ?_⟩ <;> rw [srt_len] <;> simp
    · rw [decide_eq_false g, if_neg (by decide)]
      refine ⟨_, _, rfl, rfl, wide_mul (a := 3) (b := 3) (by decide) (by decide) (by decide) (by decide) (by decide), ?_⟩
      refine ⟨_, rfl, ?_⟩
      fail "ww"
      refine n_slF (sq h11') (a := 0) ?_ (new_ fun q2 H12 n12 s12 h12 => ?_)
      · rfl
      fail "ww"
      refine n_sorted (sq h12) (new_ fun pS H13 n13 s13 h13 => ?_)
      refine ⟨pS, _, rfl, s11.trans (s12.trans s13), (s11.trans s12).free n13, h13, okL _ (fun x hx => List.mem_of_mem_drop hx), srt_up _, (srt_perm _).mem_iff.mpr (by simp), ?_, ?_⟩ <;> rw [srt_len] <;> simp
  obtain ⟨pS, ss, rfl, s11, npS, hpS, hss, hup, hds, hsl1, hsl2⟩ := p
  have hpSr := hR10.ne npS
  have hS11 := s11 _ _ hS10
  have hC11 := hC10.same s11
  have hb11 := s11 _ _ hb10
  have hU11 := hU10.same s11
  have hR11 := hR10.same s11
  have sx11 := sx10.same s11
  clear s11 hS10 hC10 hb10 hU10 hR10 sx10 npS
  have hEl : (enu (lenM n cs) (ascN n)).length = M := by rw [enu_len _ (asc_lt n), ascN_length', hM]
  obtain ⟨g, hg⟩ : ∃ g : Int → List Int, ∀ x, 0 ≤ x → x < (T : Int) → (enu (lenM n cs) (ascN n))[x.toNat]? = some (g x) := by
    refine ⟨fun x => ((enu (lenM n cs) (ascN n))[x.toNat]?).getD [], fun x h0 h1 => ?_⟩
    show (enu (lenM n cs) (ascN n))[x.toNat]? = some (((enu (lenM n cs) (ascN n))[x.toNat]?).getD [])
    rw [List.getElem?_eq_getElem (show x.toNat < (enu (lenM n cs) (ascN n)).length by omega)]; rfl
  have hgi : ∀ x, 0 ≤ x → x < (T : Int) → (g x).Perm (ascN n) ∧ runM (g x) cs = g x ∧ eIx (lenM n cs) (ascN n) (g x) = x.toNat := fun x h0 h1 => by
    have e := hg x h0 h1
    obtain ⟨_, _, h3⟩ := enu_ix (asc_lt n) (by rw [hsum, ascN_length']) e
    obtain ⟨hk, ek⟩ := List.getElem?_eq_some_iff.mp e
    have hm : g x ∈ enu (lenM n cs) (ascN n) := ek ▸ List.getElem_mem hk
    obtain ⟨h4, h5⟩ := (enu_fix hF hn1).mp hm
    exact ⟨h4, h5, h3⟩
  fail "ww"
  intro D nD
  have hDr := hR11.ne nD
  refine lc_it (walk_list (xs := ss.map V.int)) (fun i Hh => ∃ as : List Addr, as.length = i ∧ Hh D = some (.lst (as.map V.ref)) ∧ Same H11 Hh ∧ Rws Hh as ((ss.take i).map g) ∧ ∀ t ∈ as, t ≠ D ∧ t ≠ r) ?_ (fun i Hh _ p => ?_) (fun i x Hh Hh' hi p y => ?_) (fun Hh p => ?_)
  · exact ⟨[], rfl, upd_same, same_new nD, ⟨rfl, fun i t e => by simp at e⟩, fun t ht => by cases ht⟩
  · obtain ⟨_, _, _, sD, _⟩ := p; exact sq (sD _ _ hpS)
  · obtain ⟨rfl, ex⟩ := y
    obtain ⟨as, hal, hD, sD, hW, hne⟩ := p
    have hi' : i < ss.length := by simpa using hi
    rw [List.getElem?_map, List.getElem?_eq_getElem hi'] at ex
    cases ex
    obtain ⟨h0, h1⟩ := hss _ (List.getElem_mem hi')
    fail "ww"
    refine ⟨rfl, ?_⟩
    fail "ww"
    refine ⟨n, S, ss[i].toNat, ts, cs, by rw [Int.toNat_of_nonneg h0]; rfl, hn1, by omega, sq (sD _ _ hS11), hC11.same sD, hF, by omega, fun G t l sG nt el ht => ?_⟩
    rw [hg _ h0 h1] at el
    obtain rfl : g ss[i] = l := Option.some.inj el
    have htD : t ≠ D := (ne_of_none hD nt).symm
    have htr : t ≠ r := (hR11.same sD).ne nt
    have hDG := sG _ _ hD
    refine ⟨_, hDG, by rw [List.length_map]; exact size_lt (by omega), ?_⟩
    rw [show as.map V.ref ++ [V.ref t] = (as ++ [t]).map V.ref by rw [List.map_append]; rfl]
    refine ⟨as ++ [t], by rw [List.length_append, hal]; rfl, upd_same, same_old (sD.trans sG) nD, ?_, fun u hu => ?_⟩
    · have e : (ss.take (i + 1)).map g = (ss.take i).map g ++ [g ss[i]] := by rw [take_one hi', List.map_append]; rfl
      rw [e]
      exact ((hW.same sG).app (.one ht)).upd_ fun hm => by
        rcases List.mem_append.mp hm with h | h
        · exact (hne D h).1 rfl
        · exact htD (List.mem_singleton.mp h).symm
    · rcases List.mem_append.mp hu with h | h
      · exact hne u h
      · rw [List.mem_singleton.mp h]; exact ⟨htD, htr⟩
  · obtain ⟨as, hal, hD, sD, hW, hne⟩ := p
    rw [List.length_map] at hal
    rw [List.length_map, List.take_of_length_le (Nat.le_refl _)] at hW
    have hSh := sD _ _ hS11
    have hCh := hC11.same sD
    have hbh := sD _ _ hb11
    have hUh := hU11.same sD
    have hRh := hR11.same sD
    have sxh := sx11.same sD
    have hph := sD _ _ hpS
    clear sD hS11 hC11 hb11 hU11 hR11 sx11 hpS nD
    fail "ww"
    have hpw : (ss.map g).Pairwise fun l m => l = m ∨ lexL l m := by
      rw [List.pairwise_map]
      refine List.Pairwise.imp_of_mem (fun ha hb h => ?_) hup
      obtain ⟨a0, a1⟩ := hss _ ha
      obtain ⟨b0, b1⟩ := hss _ hb
      exact enu_le (asc_lt n) (hg _ a0 a1) (hg _ b0 b1) (by omega)
    refine r_sortRw (sq hD) hW hpw (new_ fun D2 H12 n12 s12 h12 => ?_)
    fail "ww"
    refine r_neRw (sq h12) (hW.same s12) (sq (s12 _ _ hD)) (hW.same s12) ?_
    fail "ww"
    refine r_itNF rfl ?_
    fail "ww"
    intro D3 n3
    have hasl : as.length = ss.length := hal
    refine lc_same (walk_list (xs := as.map V.ref)) (fun i => (ss.take i).map V.int) n3 s12 rfl (fun Hx sx => sq (sx _ _ hD)) (fun i x Hx Hx' hi pp y => ?_) (fun H13 s13 hD3 => ?_)
    · obtain ⟨rfl, ex⟩ := y
      have hi' : i < as.length := by simpa using hi
      have hi2 : i < ss.length := by omega
      rw [List.getElem?_map, List.getElem?_eq_getElem hi'] at ex
      cases ex
      obtain ⟨l, el, ht⟩ := (hW.same pp.1).at_ i _ (List.getElem?_eq_getElem hi')
      rw [List.getElem?_map, List.getElem?_eq_getElem hi2] at el
      obtain rfl : g ss[i] = l := Option.some.inj el
      obtain ⟨h0, h1⟩ := hss _ (List.getElem_mem hi2)
      obtain ⟨g1, g2, g3⟩ := hgi _ h0 h1
      fail "ww"
      refine ⟨rfl, ?_⟩
      fail "ww"
      refine ⟨S, as[i], n, g ss[i], ts, cs, rfl, hn1, by omega, sq (pp.1 _ _ hSh), hCh.same pp.1, hF, ht, g1, fun G sG => ⟨fun ne => absurd g2 ne, fun _ => ?_⟩⟩
      rw [g3, Int.toNat_of_nonneg h0]
      exact ⟨_, sG _ _ pp.2, by rw [List.length_map, List.length_take]; exact size_lt (by omega), same_old (pp.1.trans sG) (s12.free n3), by rw [upd_same, take_one hi2, List.map_append]; rfl⟩
    · rw [List.length_map, hasl, List.take_of_length_le (Nat.le_refl _)] at hD3
      fail "ww"
      refine r_neL (sq hD3) (sq (s13 _ _ hph)) ?_
      fail "ww"
      refine r_itNF rfl ?_
      fail "ww"
      have hR13 := hRh.same s13
      refine ⟨r, n, _, rfl, hR13, by omega, by omega, fun H14 pl l s14 n14 hR14 hl hlp => ?_⟩
      have hS14 := s14 _ _ hSr (s13 _ _ hSh)
      have hC14 := cm_sx s14 hR13 (hCh.same s13)
      have hb14 := s14 _ _ hbr (s13 _ _ hbh)
      have hU14 := cm_sx s14 hR13 (hUh.same s13)
      have hD14 := s14 _ _ hDr (s13 _ _ hD)
      have hp14 := s14 _ _ hpSr (s13 _ _ hph)
      have hW14 : Rws H14 as (ss.map g) := ⟨hW.len, fun i t e => let ⟨l, e1, e2⟩ := (hW.same s13).at_ i t e; ⟨l, e1, s14 _ _ (hne t (List.mem_of_getElem? e)).2 e2⟩⟩
      have hplr := hR13.ne n14
      have sx14 := (sxh.same s13).trans s14
      have hll : l.length = n := perm_len hlp
      have hner : ∀ t ∈ as, t ≠ r := fun t ht => (hne t ht).2
      clear s13 s14 hSh hCh hbh hUh hRh sxh hph hD hW hR13 hD3 n3 n14 h12 s12 n12 hne hpw
      fail "ww"
      refine forA (walk_list (xs := us.map V.ref)) (fun i σ' G => ∃ (y5 y6 : Option V) (q : Addr), σ' = [some (.ref r), some (.int (n : Int)), some (.ref S), some (.ref pb), some (.int (M : Int)), y5, y6, some (.int (T : Int)), some (.int (d : Int)), some (.ref pS), some (.ref D), some (.ref q), none, none, none, none] ∧ Same H14 G ∧ G q = some (.lst ((runM l ((blkM n cs).take i)).map V.int)) ∧ q ≠ r)
        ⟨_, _, pl, rfl, Same.refl _, hl, hplr⟩ (fun i σ' G _ p' => ?_) (fun i σ' G hi p' => ?_) (fun σ' G p' => ?_)
      · obtain ⟨_, _, _, _, s, _⟩ := p'; exact sq (s _ _ hb14)
      · obtain ⟨y5, y6, q, rfl, s, hq, hqr⟩ := p'
        have hi' : i < (blkM n cs).length := by rw [← hU14.len]; simpa using hi
        obtain ⟨t0, et, ht⟩ := hU14.idx hi'
        have e1 : (us.map V.ref)[i] = .ref t0 := by
          have : (us.map V.ref)[i]? = some (.ref t0) := by rw [List.getElem?_map, et]; rfl
          rw [List.getElem?_eq_getElem hi] at this
          exact Option.some.inj this
        have hc := hble _ (List.getElem_mem hi')
        have en : runM l ((blkM n cs).take (i + 1)) = step (runM l ((blkM n cs).take i)) (blkM n cs)[i] := by rw [take_one hi', runM_snoc]
        have hrl : (runM l ((blkM n cs).take i)).length = n := by
          rw [(runM_perm _ _ (by rw [hll]; exact fun c hc => hbf c (List.mem_of_mem_take hc))).length_eq, hll]
        rw [e1, en]
        generalize runM l ((blkM n cs).take i) = L at hq hrl ⊢
        generalize (blkM n cs)[i] = c at ht hc ⊢
        refine r_gtup (sqT (s _ _ ht)) rfl ?_
        fail "ww"
        refine n_slT (sq hq) (a := c.1 - 1) (by omega) (new_ fun q1 G1 m1 t1 g1 => ?_)
        fail "ww"
        refine n_slM (ns := L) (a := c.1 - 1) (c := c.2) (sq (t1 _ _ hq)) (by omega) rfl (new_ fun q2 G2 m2 t2 g2 => ?_)
        fail "ww"
        refine n_sorted (sq g2) (new_ fun q3 G3 m3 t3 g3 => ?_)
        have t13 := t1.trans (t2.trans t3)
        refine n_catI ((t2.trans t3) _ _ g1) g3 (by rw [srt_len, List.length_take, List.length_take, List.length_drop]; exact size_le (by omega)) (new_ fun q4 G4 m4 t4 g4 => ?_)
        fail "ww"
        refine n_slF (sq ((t13.trans t4) _ _ hq)) (a := c.2) rfl (new_ fun q5 G5 m5 t5 g5 => ?_)
        refine n_catI (t5 _ _ g4) g5 (by rw [List.length_append, srt_len, List.length_take, List.length_take, List.length_drop, List.length_drop]; exact size_le (by omega)) (new_ fun q6 G6 m6 t6 g6 => ?_)
        have t16 := (t13.trans t4).trans (t5.trans t6)
        exact ⟨_, _, q6, rfl, s.trans t16, g6, (hR14.same (s.trans ((t13.trans t4).trans t5))).ne m6⟩
      obtain ⟨y5, y6, q, rfl, s15, hq, hqr⟩ := p'
      rw [List.length_map, hU14.len, List.take_of_length_le (Nat.le_refl _)] at hq
      have hfx := run_blk_fix (l := l) hF hn1 hll
      have hRp : (runM l (blkM n cs)).Perm (ascN n) := (runM_perm _ _ (by rw [hll]; exact hbf)).trans hlp
      generalize runM l (blkM n cs) = R at hq hfx hRp
      have hS15 := s15 _ _ hS14
      have hC15 := hC14.same s15
      have hb15 := s15 _ _ hb14
      have hU15 := hU14.same s15
      have hD15 := s15 _ _ hD14
      have hp15 := s15 _ _ hp14
      have hW15 := hW14.same s15
      have hR15 := hR14.same s15
      have sx15 := sx14.same s15
      clear s15 hS14 hC14 hb14 hU14 hD14 hp14 hW14 hR14 sx14 hl hlp hplr hll
      fail "ww"
      refine ⟨S, q, n, R, ts, cs, rfl, hn1, by omega, sq hS15, hC15, hF, hq, hRp, fun H16 s16 => ⟨fun ne => absurd hfx ne, fun _ => ?_⟩⟩
      fail "ww"
      refine ⟨rfl, ?_⟩
      rw [decide_eq_false (by intro z; cases z)]
      fail "ww"
      obtain ⟨_, hRr⟩ := (enu_mem _ (asc_lt n) (by rw [hsum, ascN_length'])).mp ((enu_fix hF hn1).mpr ⟨hRp, hfx⟩)
      obtain ⟨hat, hlt⟩ := enu_at _ (asc_lt n) (by rw [hsum, ascN_length']) hRp hRr
      rw [ascN_length'] at hlt
      refine ⟨n, S, _, ts, cs, rfl, hn1, by omega, sq (s16 _ _ hS15), hC15.same s16, hF, hlt, fun H17 q7 l7 s17 n17 e7 h17 => ?_⟩
      rw [hat] at e7
      obtain rfl : R = l7 := Option.some.inj e7
      fail "ww"
      have s1617 := s16.trans s17
      refine r_neL (sq h17) (sq (s1617 _ _ hq)) ?_
      fail "ww"
      refine r_itNF rfl ?_
      fail "ww"
      have hS17 := s1617 _ _ hS15
      have hC17 := hC15.same s1617
      have hb17 := s1617 _ _ hb15
      have hU17 := hU15.same s1617
      have hD17 := s1617 _ _ hD15
      have hp17 := s1617 _ _ hp15
      have hW17 := hW15.same s1617
      have hR17 := hR15.same s1617
      have hq17 := s1617 _ _ hq
      have sx17 := sx15.same s1617
      clear s16 s17 s1617 hS15 hC15 hb15 hU15 hD15 hp15 hW15 hR15 hq sx15 h17 n17 hat hlt hRr e7
      refine ⟨RgOk.of_le (by omega) (by omega) (by omega) (by omega), new_map (rg_upTo n) (new_ fun pL H18 n18 s18 h18 => ?_)⟩
      fail "ww"
      refine new_ fun pA H19 n19 s19 h19 => ?_
      fail "ww"
      refine forA (walk_list (xs := us.map V.ref)) (fun i σ' G => ∃ (y5 y6 : Option V) (pL pA : Addr) (L A : List Int), σ' = [some (.ref r), some (.int (n : Int)), some (.ref S), some (.ref pb), some (.int (M : Int)), y5, y6, some (.int (T : Int)), some (.int (d : Int)), some (.ref pS), some (.ref D), some (.ref q), some (.int ((eIx (lenM n cs) (ascN n) R : Nat) : Int)), some (.ref pL), some (.ref pA), none] ∧ Same H17 G ∧ G pL = some (.lst (L.map V.int)) ∧ G pA = some (.lst (A.map V.int)) ∧ pA ≠ r ∧ A ++ lastM ((lenM n cs).drop i) L = lastM (lenM n cs) (ascN n) ∧ L.length = ((lenM n cs).drop i).sum ∧ A.length ≤ 60 * i)
        ⟨_, _, pL, pA, ascN n, [], rfl, s18.trans s19, s19 _ _ h18, h19, (hR17.same s18).ne n19, rfl, by rw [List.drop_zero, hsum, ascN_length'], Nat.zero_le _⟩ (fun i σ' G _ p' => ?_) (fun i σ' G hi p' => ?_) (fun σ' G p' => ?_)
      · obtain ⟨_, _, _, _, _, _, _, s, _⟩ := p'; exact sq (s _ _ hb17)
      · clear h18 h19 n18 n19 s18 s19
        obtain ⟨y5, y6, pL, pA, L, A, rfl, s, hL, hA, hAr, hinv, hLl, hAl⟩ := p'
        have hi' : i < (blkM n cs).length := by rw [← hU17.len]; simpa using hi
        obtain ⟨t0, et, ht⟩ := hU17.idx hi'
        have e1 : (us.map V.ref)[i] = .ref t0 := by
          have : (us.map V.ref)[i]? = some (.ref t0) := by rw [List.getElem?_map, et]; rfl
          rw [List.getElem?_eq_getElem hi] at this
          exact Option.some.inj this
        have hc := hble _ (List.getElem_mem hi')
        have hil : i < (lenM n cs).length := by rw [hlen]; exact hi'
        have elen : (lenM n cs)[i] = (blkM n cs)[i].2 - (blkM n cs)[i].1 + 1 := List.getElem_map ..
        have ed : (lenM n cs).drop i = ((blkM n cs)[i].2 - (blkM n cs)[i].1 + 1) :: (lenM n cs).drop (i + 1) := by rw [List.drop_eq_getElem_cons hil, elen]
        rw [ed] at hinv hLl
        rw [List.sum_cons] at hLl
        have hdle : ((lenM n cs).drop i).sum ≤ n := by
          have := hsum
          conv at this => lhs; rw [← List.take_append_drop i (lenM n cs), List.sum_append]
          omega
        rw [ed, List.sum_cons] at hdle
        rw [e1]
        generalize (blkM n cs)[i] = c at ht hc hinv hLl hdle ⊢
        have hinv' : A ++ (L.drop (L.length - (c.2 - c.1 + 1)) ++ lastM ((lenM n cs).drop (i + 1)) (L.take (L.length - (c.2 - c.1 + 1)))) = lastM (lenM n cs) (ascN n) := hinv
        refine r_gtup (sqT (s _ _ ht)) rfl ?_
        have hi60 : i < 60 := by omega
        have hidx : ((L.length : Nat) : Int) - ((c.2 : Int) - (c.1 : Int) + 1) = ((L.length - (c.2 - c.1 + 1) : Nat) : Int) := by omega
        fail "ww"
        refine n_slF (sq hL) (a := L.length - (c.2 - c.1 + 1)) (by rw [List.length_map]; exact hidx) (new_ fun q1 G1 m1 t1 g1 => ?_)
        refine n_catI (t1 _ _ hA) g1 (by rw [List.length_drop]; exact size_le (by omega)) (new_ fun q2 G2 m2 t2 g2 => ?_)
        fail "ww"
        refine n_slT (sq ((t1.trans t2) _ _ hL)) (a := L.length - (c.2 - c.1 + 1)) (by rw [List.length_map]; exact hidx) (new_ fun q3 G3 m3 t3 g3 => ?_)
        have t13 := t1.trans (t2.trans t3)
        refine ⟨_, _, q3, q2, _, _, rfl, s.trans t13, g3, t3 _ _ g2, ((hR17.same s).same t1).ne m2, by rw [List.append_assoc]; exact hinv', ?_, ?_⟩
        · rw [List.length_take]; omega
        · rw [List.length_append, List.length_drop]; omega
      · clear h18 h19 n18 n19 s18 s19
        obtain ⟨y5, y6, pL, pA, L, A, rfl, s, hL, hA, hAr, hinv, hLl, hAl⟩ := p'
        have hd0 : (lenM n cs).drop (us.map V.ref).length = [] := List.drop_of_length_le (by rw [List.length_map, hlen, hU17.len]; exact Nat.le_refl _)
        rw [hd0] at hinv hLl
        have hAe : A = lastM (lenM n cs) (ascN n) := by rw [← hinv]; exact (List.append_nil A).symm
        obtain ⟨z1, z2, z3⟩ := last_ok (by rw [hsum, ascN_length']) (asc_lt n)
        rw [← hAe] at z1 z2 z3
        rw [ascN_length', hM] at z3
        obtain ⟨_, hZf⟩ := (enu_fix hF hn1).mp ((enu_mem _ (asc_lt n) (by rw [hsum, ascN_length'])).mpr ⟨z1, z2⟩)
        obtain ⟨zat, _⟩ := enu_at _ (asc_lt n) (by rw [hsum, ascN_length']) z1 z2
        have hS18 := s _ _ hS17
        have hC18 := hC17.same s
        have hb18 := s _ _ hb17
        have hU18 := hU17.same s
        have hD18 := s _ _ hD17
        have hp18 := s _ _ hp17
        have hW18 := hW17.same s
        have hR18 := hR17.same s
        have hq18 := s _ _ hq17
        have sx18 := sx17.same s
        clear s hS17 hC17 hb17 hU17 hD17 hp17 hW17 hR17 hq17 sx17 hL hinv hLl hd0 hAe
        fail "ww"
        refine ⟨S, pA, n, A, ts, cs, rfl, hn1, by omega, sq hS18, hC18, hF, hA, z1, fun H19 s19 => ⟨fun ne => absurd hZf ne, fun _ => ?_⟩⟩
        fail "ww"
        rw [decide_eq_true (show ((eIx (lenM n cs) (ascN n) A : Nat) : Int) = (M : Int) - 1 by omega)]
        fail "ww"
        refine ⟨n, S, eIx (lenM n cs) (ascN n) A, ts, cs, by rw [show (M : Int) - 1 = ((eIx (lenM n cs) (ascN n) A : Nat) : Int) by omega]; rfl, hn1, by omega, sq (s19 _ _ hS18), hC18.same s19, hF, by omega, fun H20 q7 l7 s20 n20 e7 h20 => ?_⟩
        rw [zat] at e7
        obtain rfl : A = l7 := Option.some.inj e7
        fail "ww"
        have s1920 := s19.trans s20
        refine r_neL (sq h20) (sq (s1920 _ _ hA)) ?_
        fail "ww"
        refine r_itNF rfl ?_
        fail "ww"
        refine new_ fun v1 H21 n21 s21 h21 => ?_
        have s1921 := s1920.trans s21
        refine n_cat (xs := as.map V.ref) (ys := [.ref q, .ref pA]) (s1921 _ _ hD18) h21 (size_le (by rw [List.length_map]; simp; omega)) (new_ fun v2 H22 n22 s22 h22 => ?_)
        have s1922 := s1921.trans s22
        have h22' : H22 v2 = some (.lst ((as ++ [q, pA]).map V.ref)) := by rw [List.map_append]; exact h22
        have hW22 : Rws H22 (as ++ [q, pA]) (ss.map g ++ [R, A]) := (hW18.same s1922).app ((Rws.one (s1922 _ _ hq18)).app (.one (s1922 _ _ hA)))
        have hall : ∀ l ∈ ss.map g ++ [R, A], l.Perm (ascN n) ∧ runM l cs = l := fun l hl => by
          rcases List.mem_append.mp hl with h | h
          · obtain ⟨x, hx, rfl⟩ := List.mem_map.mp h
            obtain ⟨h0, h1⟩ := hss x hx
            obtain ⟨g1, g2, _⟩ := hgi x h0 h1
            exact ⟨g1, g2⟩
          · rcases List.mem_cons.mp h with h | h
            · rw [h]; exact ⟨hRp, hfx⟩
            · rw [List.mem_singleton.mp h]; exact ⟨z1, hZf⟩
        have hS22 := s1922 _ _ hS18
        have hC22 := hC18.same s1922
        have hb22 := s1922 _ _ hb18
        have hU22 := hU18.same s1922
        have hD22 := s1922 _ _ hD18
        have hp22 := s1922 _ _ hp18
        have hWW := hW18.same s1922
        have hR22 := hR18.same s1922
        have sx22 := sx18.same s1922
        clear s19 s20 s1920 s21 s1921 s22 s1922 hS18 hC18 hb18 hU18 hD18 hp18 hW18 hR18 hq18 sx18 hA h20 h21 h22 n20 n21 n22
        fail "ww"
        refine forA (walk_list (xs := (as ++ [q, pA]).map V.ref)) (fun i σ' G => ∃ (y15 : Option V) (_u : Unit), σ' = [some (.ref r), some (.int (n : Int)), some (.ref S), some (.ref pb), some (.int (M : Int)), y5, y6, some (.int (T : Int)), some (.int (d : Int)), some (.ref pS), some (.ref D), some (.ref q), some (.int ((eIx (lenM n cs) (ascN n) R : Nat) : Int)), some (.ref pL), some (.ref pA), y15] ∧ Same H22 G)
          ⟨_, (), rfl, Same.refl _⟩ (fun i σ' G _ p' => ?_) (fun i σ' G hi p' => ?_) (fun σ' G p' => ?_)
        · obtain ⟨_, _, _, s⟩ := p'; exact sq (s _ _ h22')
        · obtain ⟨y15, _, rfl, s⟩ := p'
          have hi' : i < (as ++ [q, pA]).length := by simpa using hi
          obtain ⟨E, eE, ht⟩ := (hW22.same s).at_ i _ (List.getElem?_eq_getElem hi')
          have e1 : ((as ++ [q, pA]).map V.ref)[i] = .ref (as ++ [q, pA])[i] := List.getElem_map ..
          obtain ⟨hEp, hEf⟩ := hall E (List.mem_of_getElem? eE)
          have hEl2 : E.length = n := perm_len hEp
          rw [e1]
          generalize (as ++ [q, pA])[i] = t at ht ⊢
          fail "ww"
          refine n_sorted (sq ht) (new_ fun v3 G1 m1 t1 g1 => ?_)
          fail "ww"
          refine ⟨RgOk.of_le (by omega) (by omega) (by omega) (by omega), new_map (rg_upTo n) (new_ fun v4 G2 m2 t2 g2 => ?_)⟩
          rw [srt_asc hEp] at g1
          refine r_neL (sq (t2 _ _ g1)) (sq g2) ?_
          fail "ww"
          refine r_itNF rfl ?_
          have u2 := s.trans (t1.trans t2)
          have ht2 := (t1.trans t2) _ _ ht
          fail "ww"
          refine ⟨t, pb, E, us, blkM n cs, rfl, sq ht2, sq (u2 _ _ hb22), hU22.same u2, by rw [hEl2]; exact hbf, by omega, fun G3 t3 => ?_⟩
          rw [ris_iff hF hn1 hEl2, decide_eq_true hEf]
          have u3 := u2.trans t3
          fail "ww"
          refine ⟨t, S, E, ts, cs, rfl, sq (t3 _ _ ht2), sq (u3 _ _ hS22), hC22.same u3, by omega, by omega, by rw [hEl2]; exact hF, fun G4 v5 t4 m4 g4 => ?_⟩
          rw [hEf] at g4
          have u4 := u3.trans t4
          have ht4 := t4 _ _ (t3 _ _ ht2)
          fail "ww"
          refine r_neL (sq g4) (sq ht4) ?_
          fail "ww"
          refine r_itNF rfl ?_
          fail "ww"
          refine ⟨S, t, E, n, ts, cs, rfl, sq (u4 _ _ hS22), sq ht4, hEp, hn1, by omega, hC22.same u4, hF, fun G5 t5 => ?_⟩
          have hmb := made_back hEp hF
          rw [hEf] at hmb
          rw [decide_eq_true hmb]
          fail "ww"
          exact ⟨_, (), rfl, u4.trans t5⟩
        · obtain ⟨y15, _, rfl, s⟩ := p'
          have hS23 := s _ _ hS22
          have hC23 := hC22.same s
          have hb23 := s _ _ hb22
          have hU23 := hU22.same s
          have hD23 := s _ _ hD22
          have hp23 := s _ _ hp22
          have hW23 := hWW.same s
          have hR23 := hR22.same s
          have sx23 := sx22.same s
          clear s hS22 hC22 hb22 hU22 hD22 hp22 hWW hR22 sx22 h22' hW22
          fail "ww"
          refine ⟨r, S, pb, D, n, _, ts, us, as, cs, ss.map g, (), (), rfl, hR23, by omega, hn1, hn, hS23, hSr, hC23, hF, hb23, hbr, hU23, hD23, hDr, hW23, hner, by rw [List.length_map]; exact hsl1, by rw [List.length_map]; omega, fun l hl => ?_, fun H24 s24 hR24 => ?_⟩
          · obtain ⟨x, hx, rfl⟩ := List.mem_map.mp hl
            obtain ⟨h0, h1⟩ := hss x hx
            obtain ⟨g1, g2, _⟩ := hgi x h0 h1
            exact ⟨g1, g2⟩
          fail "ww"
          have hU24 := cm_sx s24 hR23 hU23
          have eB : lenM n (blkM n cs) = lenM n cs := by unfold lenM; rw [blk_blk hF hn1]
          refine ⟨n, pb, d, us, blkM n cs, rfl, hn1, by omega, sq (s24 _ _ hbr hb23), hU24, hbf, by rw [eB, hM]; omega, fun H25 v6 l6 s25 n25 e6 h25 => ?_⟩
          rw [eB] at e6
          fail "ww"
          obtain ⟨j, ej, hj⟩ := first_ix hds
          have hjl := (List.getElem?_eq_some_iff.mp ej).1
          have hp25 := s25 _ _ (s24 _ _ hpSr hp23)
          have hD25 := s25 _ _ (s24 _ _ hDr hD23)
          refine ⟨pS, _, _, j, _, rfl, rfl, sq hp25, rfl, by rw [List.all_map, List.all_eq_true]; exact fun x _ => rfl, by rw [List.getElem?_map, ej]; rfl, by show (_ == _) = true; simp, fun m z' hm ez => ?_, ?_⟩
          · rw [List.getElem?_map] at ez
            cases ex : ss[m]? with
            | none => rw [ex] at ez; cases ez
            | some x =>
              rw [ex] at ez; cases ez
              show (x == (d : Int)) = false
              have := hj m x hm ex
              simp [this]
          have hja : j < as.length := by rw [hal]; exact hjl
          refine r_ixL (sq hD25) (at_of (j := j) rfl (by rw [List.getElem?_map, List.getElem?_eq_getElem hja]; rfl)) ?_
          obtain ⟨lj, elj, htj⟩ := hW23.at_ j _ (List.getElem?_eq_getElem hja)
          rw [List.getElem?_map, ej] at elj
          obtain rfl : g (d : Int) = lj := Option.some.inj elj
          have e7 := hg (d : Int) (by omega) (by omega)
          rw [Int.toNat_natCast, e6] at e7
          obtain rfl : l6 = g (d : Int) := Option.some.inj e7
          refine r_eqL (sq h25) (sq (s25 _ _ (s24 _ _ (hner _ (List.getElem_mem hja)) htj))) ?_
          rw [decide_eq_true rfl]
          exact k _ ((sx23.trans s24).same s25) ((hR24.same s25).le (by omega))
def sp_law (K : PySem.W.Frag) : Sp := fun vs H Q _ => ∃ (a : Addr) (ns : List Int), vs = [.ref a] ∧ SqL K H a (ns.map V.int) ∧ ns.length ≤ 63 ∧ ∀ H', Q (.bl true) H'
theorem ok_law (T : Txt K mg) : FnG P w K mg base CX0 6 T.law_a T.law_d ["script"] (sp_law K) := by
  refine okG T.law_F sc_law (fun vs H Q E h => ?_) (fun cdv A ou t H vs Q E hG hr h => ?_)
  · obtain ⟨_, _, rfl, _⟩ := h; rfl
  have nd := sc_law.nd
  obtain ⟨a, ns, rfl, hS, hlen, q⟩ := h
  refine ⟨_, (pss_cons (ps_for PassesOwn.never rfl (pi_range1 (by rfl) T.m_range (pa_cons (pe_callB (call_max2 rfl) (by rfl) T.m_max (by decide +kernel) (pa_cons pe_int (pa_cons (pe_callB (call_min2 rfl) (by rfl) T.m_min (by decide +kernel) (pa_cons pe_int (pa_cons (pe_callB (lenK K) (by rfl) T.m_len PySem.boot_len (pa_cons (pv 0) pa_nil)) pa_nil))) pa_nil))) pa_nil)) (gset 1 nd)
        (pss_cons (sset 2 nd (pe_callG (ok_law_pool T) hG (hr.mono (by decide)) (by rfl) T.law_pool_g T.law_pool_F.kp T.law_pool_b .nil pass0 (pa_cons (pv 0) (pa_cons (pv 1) pa_nil))))
      (pss_cons (ps_for PassesOwn.never rfl (pi_range1 (by rfl) T.m_range (pa_cons pe_int pa_nil)) (gset 3 nd)
        (pss_one (ps_if (pt_not (pt_val (pe_callG (ok_law_right T) hG (hr.mono (by decide)) (by rfl) T.law_right_g T.law_right_F.kp T.law_right_b .nil pass0 (pa_cons (pv 2) (pa_cons (pe_op op_add pe_int (pe_callG (ok_law_draw T) hG (hr.mono (by decide)) (by rfl) T.law_draw_g T.law_draw_F.kp T.law_draw_b .nil pass0 (pa_cons (pv 2) (pa_cons pe_int pa_nil)))) pa_nil)))))
        (pss_one (ps_ret pe_bl))
        pss_nil)))
      (pss_one (ps_if (PW.pt (pw_and (pt_cmpR op_eq (pv 1) pe_int (nomark _)) (pw_and1 (pt_not (pt_val (pe_callG (ok_law_right T) hG (hr.mono (by decide)) (by rfl) T.law_right_g T.law_right_F.kp T.law_right_b .nil pass0 (pa_cons (pv 2) (pa_cons (pe_op op_sub pe_int (pe_callG (ok_law_draw T) hG (hr.mono (by decide)) (by rfl) T.law_draw_g T.law_draw_F.kp T.law_draw_b .nil pass0 (pa_cons (pv 2) (pa_cons pe_int pa_nil)))) pa_nil))))))))
        (pss_one (ps_ret pe_bl))
        pss_nil)))))
      (pss_one (ps_ret (pe_and (pe_cmpR op_eq (pe_callG (ok_count_unchanged T) hG (hr.mono (by decide)) (by rfl) T.count_unchanged_g T.count_unchanged_F.kp T.count_unchanged_b .nil pass0 (pa_cons pe_int (pa_cons (pe_lst (pa_cons (pe_tup (pa_cons pe_int (pa_cons pe_int pa_nil))) pa_nil)) pa_nil))) (pe_callG (ok_law_factorial T) hG (hr.mono (by decide)) (by rfl) T.law_factorial_g T.law_factorial_F.kp T.law_factorial_b .nil pass0 (pa_cons pe_int pa_nil)) (nomark _)) (pe_one (pe_cmpR op_eq (pe_callG (ok_unchanged_number T) hG (hr.mono (by decide)) (by rfl) T.unchanged_number_g T.unchanged_number_F.kp T.unchanged_number_b .nil pass0 (pa_cons (pe_lst pa_nil) (pa_cons (pe_lst (pa_cons pe_int (pa_cons pe_int (pa_cons pe_int pa_nil)))) pa_nil))) pe_int (nomark _))))))), ?_⟩
  fail "ww"
  rw [List.length_map]
  obtain ⟨N, hN, hN2⟩ : ∃ N : Nat, (if (if ((ns.length : Nat) : Int) < 3 then ((ns.length : Nat) : Int) else 3) > 1 then (if ((ns.length : Nat) : Int) < 3 then ((ns.length : Nat) : Int) else 3) else 1) = (N : Int) ∧ N ≤ 3 := by
    refine ⟨(if (if ((ns.length : Nat) : Int) < 3 then ((ns.length : Nat) : Int) else 3) > 1 then (if ((ns.length : Nat) : Int) < 3 then ((ns.length : Nat) : Int) else 3) else 1).toNat, ?_, ?_⟩ <;> split <;> split <;> omega
  rw [hN]
  refine ⟨by omega, by omega, ?_⟩
  refine forF walk_range (fun i σ' H' => ∃ (y1 y2 y3 : Option V) (_u : Unit), σ' = [some (.ref a), y1, y2, y3] ∧ Same H H')
    ⟨none, none, none, (), rfl, Same.refl _⟩ (fun _ _ _ _ _ => trivial) (fun i σ' H' hi p => ?_) (fun σ' H' p => ?_)
  · obtain ⟨y1, y2, y3, _, rfl, s⟩ := p
    fail "ww"
    have hi8 : i < 3 := by omega
    rw [show (0 : Int) + (i : Int) = ((i : Nat) : Int) by omega]
    refine ⟨a, ns, i, rfl, by fail "kp", by omega, fun H1 r s1 nr hR => ?_⟩
    have nr0 : H r = none := by fail "kpz"
    fail "ww"
    refine ⟨by omega, by omega, ?_⟩
    have s01 : Same H H1 := by fail "kp"
    refine forF walk_range (fun j σ' H' => ∃ (y3 : Option V) (_u : Unit), σ' = [some (.ref a), some (.int (i : Int)), some (.ref r), y3] ∧ Pol H' r (3000 * j) ∧ Sx r H H')
      ⟨y3, (), rfl, hR, sx_of s01⟩ (fun _ _ _ _ _ => trivial) (fun j σ' H' hj p => ?_) (fun σ' H' p => ?_)
    · obtain ⟨y3, _, rfl, hRj, sj⟩ := p
      have hj6 : j < 2 := hj
      fail "ww"
      refine ⟨r, 18, _, rfl, hRj, by omega, by decide, by decide, fun H6 d hd0 hd1 s6 hR6 => ?_⟩
      obtain ⟨e, rfl⟩ := Int.eq_ofNat_of_zero_le hd0
      fail "ww"
      rw [show (1:Int) + (e:Int) = ((1+e : Nat) : Int) by omega]
      refine ⟨r, 1+e, _, rfl, hR6, by omega, by omega, by omega, fun H7 s7 hR7 => ?_⟩
      fail "ww"
      exact ⟨_, (), rfl, hR7.le (by omega), sj.trans (s6.trans s7)⟩
    · obtain ⟨y3, _, rfl, hRj, sj⟩ := p
      have back : ∀ H2, Sx r H H2 → Same H H2 := fun H2 sx b o e => sx b o (ne_of_none e nr0) e
      fail "ww"
      refine r_dec (fun g => ?_) (fun g => ?_)
      · fail "ww"
        refine ⟨r, 20, _, rfl, hRj, by decide, by decide, by decide, fun H6 d hd0 hd1 s6 hR6 => ?_⟩
        obtain ⟨e, rfl⟩ := Int.eq_ofNat_of_zero_le hd0
        fail "ww"
        rw [show (60:Int) - (e:Int) = ((60 - e : Nat) : Int) by omega]
        refine ⟨r, 60 - e, _, rfl, hR6, by decide, by omega, by omega, fun H7 s7 hR7 => ?_⟩
        fail "ww"
        exact ⟨_, _, _, (), rfl, back _ (sj.trans (s6.trans s7))⟩
      · fail "ww"
        exact ⟨_, _, _, (), rfl, back _ sj⟩
  · obtain ⟨y1, y2, y3, _, rfl, s⟩ := p
    clear s hS
    fail "ww"
    refine new_ fun t1 H1 n1 s1 g1 => ?_
    fail "ww"
    refine new_ fun a1 H2 n2 s2 g2 => ?_
    fail "ww"
    have c1 : Cm H2 [t1] [((7, 7) : Cmd)] := ⟨rfl, fun i t e => by
      cases i with
      | zero => cases e; exact ⟨(7, 7), rfl, s2 _ _ g1⟩
      | succ i => simp at e⟩
    refine ⟨60, a1, [t1], [(7, 7)], rfl, by decide, by decide, sq g2, c1, (fun c hc => by rw [List.mem_singleton.mp hc]; decide), fun H3 s3 => ?_⟩
    rw [show mulM (lenM 60 [((7, 7) : Cmd)]) 60 = fac 60 by decide +kernel]
    fail "ww"
    refine ⟨60, rfl, by decide, ?_⟩
    fail "ww"
    rw [decide_eq_true rfl]
    fail "ww"
    refine new_ fun a2 H4 n4 s4 g4 => ?_
    fail "ww"
    refine new_ fun a3 H5 n5 s5 g5 => ?_
    fail "ww"
    refine ⟨a2, a3, 3, [3, 2, 1], [], [], rfl, by decide, by decide, sq (s5 _ _ g4), ⟨rfl, fun i t e => by simp at e⟩, (fun c hc => by cases hc), g5, by decide, fun H6 s6 => ⟨fun ne => absurd rfl ne, fun _ => ?_⟩⟩
    rw [show eIx (lenM 3 []) (ascN 3) [3, 2, 1] = 5 by decide +kernel]
    fail "ww"
    exact q _
end
theorem all_mk {w : World} {K : PySem.W.Frag} {h : Heap} {mg : Str → Option Value} {l : PySem.W.OpenLaw} {fa f_check_size f_check_script f_check_arrangement f_sort_stretches f_linked_blocks f_nth_choice f_choice_number f_law_pool f_law_draw f_law_blocks f_law_rising f_law_factorial f_check_sized_script f_block_lengths f_unchanged_number f_greatest_before f_law_steps f_law_line f_run f_blocks f_count_unchanged f_is_result f_law_changed_right f_nth_unchanged f_law_right f_law : Addr} (X : K.In h) (G : h.Ns mainGlobals mg) (hfa : mg "law" = some (.ref fa))
    {od0 an0 od1 an1 od2 an2 od3 an3 od4 an4 od5 an5 od6 an6 od7 an7 od8 an8 od9 an9 od10 an10 od11 an11 od12 an12 od13 an13 od14 an14 od15 an15 od16 an16 od17 an17 od18 an18 od19 an19 od20 an20 od21 an21 od22 an22 od23 an23 od24 an24 od25 an25 : Option Addr} {sl0 sl1 sl2 sl3 sl4 sl5 sl6 sl7 sl8 sl9 sl10 sl11 sl12 sl13 sl14 sl15 sl16 sl17 sl18 sl19 sl20 sl21 sl22 sl23 sl24 sl25 : Array (Option Value)} {oc0 kV0 dc0 pm0 cd0 ct0 oc1 kV1 dc1 pm1 cd1 ct1 oc2 kV2 dc2 pm2 cd2 ct2 oc3 kV3 dc3 pm3 cd3 ct3 oc4 kV4 dc4 pm4 cd4 ct4 oc5 kV5 dc5 pm5 cd5 ct5 oc6 kV6 dc6 pm6 cd6 ct6 oc7 kV7 dc7 pm7 cd7 ct7 oc8 kV8 dc8 pm8 cd8 ct8 oc9 kV9 dc9 pm9 cd9 ct9 oc10 kV10 dc10 pm10 cd10 ct10 oc11 kV11 dc11 pm11 cd11 ct11 oc12 kV12 dc12 pm12 cd12 ct12 oc13 kV13 dc13 pm13 cd13 ct13 oc14 kV14 dc14 pm14 cd14 ct14 oc15 kV15 dc15 pm15 cd15 ct15 oc16 kV16 dc16 pm16 cd16 ct16 oc17 kV17 dc17 pm17 cd17 ct17 oc18 kV18 dc18 pm18 cd18 ct18 oc19 kV19 dc19 pm19 cd19 ct19 oc20 kV20 dc20 pm20 cd20 ct20 oc21 kV21 dc21 pm21 cd21 ct21 oc22 kV22 dc22 pm22 cd22 ct22 oc23 kV23 dc23 pm23 cd23 ct23 oc24 kV24 dc24 pm24 cd24 ct24 oc25 kV25 dc25 pm25 cd25 ct25 : Value}
    (a0 : PySem.W.nsIn K mainGlobals "check_size" = some (some (.ref f_check_size)))
    (l0 : K.lookup f_check_size = some ⟨oc0, od0, .func (PySem.W.fnOf "check_size" "check_size" (defArgs s_check_size) (defBody s_check_size) (defScope s_check_size) .none kV0 dc0 pm0 an0 cd0 ct0), sl0⟩) (c0 : PySem.W.codeIn K cd0 "check_size" = true) (k0 : PySem.W.keepIn K (.ref f_check_size) = true)
    (a1 : PySem.W.nsIn K mainGlobals "check_script" = some (some (.ref f_check_script)))
    (l1 : K.lookup f_check_script = some ⟨oc1, od1, .func (PySem.W.fnOf "check_script" "check_script" (defArgs s_check_script) (defBody s_check_script) (defScope s_check_script) .none kV1 dc1 pm1 an1 cd1 ct1), sl1⟩) (c1 : PySem.W.codeIn K cd1 "check_script" = true) (k1 : PySem.W.keepIn K (.ref f_check_script) = true)
    (a2 : PySem.W.nsIn K mainGlobals "check_arrangement" = some (some (.ref f_check_arrangement)))
    (l2 : K.lookup f_check_arrangement = some ⟨oc2, od2, .func (PySem.W.fnOf "check_arrangement" "check_arrangement" (defArgs s_check_arrangement) (defBody s_check_arrangement) (defScope s_check_arrangement) .none kV2 dc2 pm2 an2 cd2 ct2), sl2⟩) (c2 : PySem.W.codeIn K cd2 "check_arrangement" = true) (k2 : PySem.W.keepIn K (.ref f_check_arrangement) = true)
    (a3 : PySem.W.nsIn K mainGlobals "sort_stretches" = some (some (.ref f_sort_stretches)))
    (l3 : K.lookup f_sort_stretches = some ⟨oc3, od3, .func (PySem.W.fnOf "sort_stretches" "sort_stretches" (defArgs s_sort_stretches) (defBody s_sort_stretches) (defScope s_sort_stretches) .none kV3 dc3 pm3 an3 cd3 ct3), sl3⟩) (c3 : PySem.W.codeIn K cd3 "sort_stretches" = true) (k3 : PySem.W.keepIn K (.ref f_sort_stretches) = true)
    (a4 : PySem.W.nsIn K mainGlobals "linked_blocks" = some (some (.ref f_linked_blocks)))
    (l4 : K.lookup f_linked_blocks = some ⟨oc4, od4, .func (PySem.W.fnOf "linked_blocks" "linked_blocks" (defArgs s_linked_blocks) (defBody s_linked_blocks) (defScope s_linked_blocks) .none kV4 dc4 pm4 an4 cd4 ct4), sl4⟩) (c4 : PySem.W.codeIn K cd4 "linked_blocks" = true) (k4 : PySem.W.keepIn K (.ref f_linked_blocks) = true)
    (a5 : PySem.W.nsIn K mainGlobals "nth_choice" = some (some (.ref f_nth_choice)))
    (l5 : K.lookup f_nth_choice = some ⟨oc5, od5, .func (PySem.W.fnOf "nth_choice" "nth_choice" (defArgs s_nth_choice) (defBody s_nth_choice) (defScope s_nth_choice) .none kV5 dc5 pm5 an5 cd5 ct5), sl5⟩) (c5 : PySem.W.codeIn K cd5 "nth_choice" = true) (k5 : PySem.W.keepIn K (.ref f_nth_choice) = true)
    (a6 : PySem.W.nsIn K mainGlobals "choice_number" = some (some (.ref f_choice_number)))
    (l6 : K.lookup f_choice_number = some ⟨oc6, od6, .func (PySem.W.fnOf "choice_number" "choice_number" (defArgs s_choice_number) (defBody s_choice_number) (defScope s_choice_number) .none kV6 dc6 pm6 an6 cd6 ct6), sl6⟩) (c6 : PySem.W.codeIn K cd6 "choice_number" = true) (k6 : PySem.W.keepIn K (.ref f_choice_number) = true)
    (a7 : PySem.W.nsIn K mainGlobals "_law_pool" = some (some (.ref f_law_pool)))
    (l7 : K.lookup f_law_pool = some ⟨oc7, od7, .func (PySem.W.fnOf "_law_pool" "_law_pool" (defArgs s_law_pool) (defBody s_law_pool) (defScope s_law_pool) .none kV7 dc7 pm7 an7 cd7 ct7), sl7⟩) (c7 : PySem.W.codeIn K cd7 "_law_pool" = true) (k7 : PySem.W.keepIn K (.ref f_law_pool) = true)
    (a8 : PySem.W.nsIn K mainGlobals "_law_draw" = some (some (.ref f_law_draw)))
    (l8 : K.lookup f_law_draw = some ⟨oc8, od8, .func (PySem.W.fnOf "_law_draw" "_law_draw" (defArgs s_law_draw) (defBody s_law_draw) (defScope s_law_draw) .none kV8 dc8 pm8 an8 cd8 ct8), sl8⟩) (c8 : PySem.W.codeIn K cd8 "_law_draw" = true) (k8 : PySem.W.keepIn K (.ref f_law_draw) = true)
    (a9 : PySem.W.nsIn K mainGlobals "_law_blocks" = some (some (.ref f_law_blocks)))
    (l9 : K.lookup f_law_blocks = some ⟨oc9, od9, .func (PySem.W.fnOf "_law_blocks" "_law_blocks" (defArgs s_law_blocks) (defBody s_law_blocks) (defScope s_law_blocks) .none kV9 dc9 pm9 an9 cd9 ct9), sl9⟩) (c9 : PySem.W.codeIn K cd9 "_law_blocks" = true) (k9 : PySem.W.keepIn K (.ref f_law_blocks) = true)
    (a10 : PySem.W.nsIn K mainGlobals "_law_rising" = some (some (.ref f_law_rising)))
    (l10 : K.lookup f_law_rising = some ⟨oc10, od10, .func (PySem.W.fnOf "_law_rising" "_law_rising" (defArgs s_law_rising) (defBody s_law_rising) (defScope s_law_rising) .none kV10 dc10 pm10 an10 cd10 ct10), sl10⟩) (c10 : PySem.W.codeIn K cd10 "_law_rising" = true) (k10 : PySem.W.keepIn K (.ref f_law_rising) = true)
    (a11 : PySem.W.nsIn K mainGlobals "_law_factorial" = some (some (.ref f_law_factorial)))
    (l11 : K.lookup f_law_factorial = some ⟨oc11, od11, .func (PySem.W.fnOf "_law_factorial" "_law_factorial" (defArgs s_law_factorial) (defBody s_law_factorial) (defScope s_law_factorial) .none kV11 dc11 pm11 an11 cd11 ct11), sl11⟩) (c11 : PySem.W.codeIn K cd11 "_law_factorial" = true) (k11 : PySem.W.keepIn K (.ref f_law_factorial) = true)
    (a12 : PySem.W.nsIn K mainGlobals "check_sized_script" = some (some (.ref f_check_sized_script)))
    (l12 : K.lookup f_check_sized_script = some ⟨oc12, od12, .func (PySem.W.fnOf "check_sized_script" "check_sized_script" (defArgs s_check_sized_script) (defBody s_check_sized_script) (defScope s_check_sized_script) .none kV12 dc12 pm12 an12 cd12 ct12), sl12⟩) (c12 : PySem.W.codeIn K cd12 "check_sized_script" = true) (k12 : PySem.W.keepIn K (.ref f_check_sized_script) = true)
    (a13 : PySem.W.nsIn K mainGlobals "block_lengths" = some (some (.ref f_block_lengths)))
    (l13 : K.lookup f_block_lengths = some ⟨oc13, od13, .func (PySem.W.fnOf "block_lengths" "block_lengths" (defArgs s_block_lengths) (defBody s_block_lengths) (defScope s_block_lengths) .none kV13 dc13 pm13 an13 cd13 ct13), sl13⟩) (c13 : PySem.W.codeIn K cd13 "block_lengths" = true) (k13 : PySem.W.keepIn K (.ref f_block_lengths) = true)
    (a14 : PySem.W.nsIn K mainGlobals "unchanged_number" = some (some (.ref f_unchanged_number)))
    (l14 : K.lookup f_unchanged_number = some ⟨oc14, od14, .func (PySem.W.fnOf "unchanged_number" "unchanged_number" (defArgs s_unchanged_number) (defBody s_unchanged_number) (defScope s_unchanged_number) .none kV14 dc14 pm14 an14 cd14 ct14), sl14⟩) (c14 : PySem.W.codeIn K cd14 "unchanged_number" = true) (k14 : PySem.W.keepIn K (.ref f_unchanged_number) = true)
    (a15 : PySem.W.nsIn K mainGlobals "greatest_before" = some (some (.ref f_greatest_before)))
    (l15 : K.lookup f_greatest_before = some ⟨oc15, od15, .func (PySem.W.fnOf "greatest_before" "greatest_before" (defArgs s_greatest_before) (defBody s_greatest_before) (defScope s_greatest_before) .none kV15 dc15 pm15 an15 cd15 ct15), sl15⟩) (c15 : PySem.W.codeIn K cd15 "greatest_before" = true) (k15 : PySem.W.keepIn K (.ref f_greatest_before) = true)
    (a16 : PySem.W.nsIn K mainGlobals "_law_steps" = some (some (.ref f_law_steps)))
    (l16 : K.lookup f_law_steps = some ⟨oc16, od16, .func (PySem.W.fnOf "_law_steps" "_law_steps" (defArgs s_law_steps) (defBody s_law_steps) (defScope s_law_steps) .none kV16 dc16 pm16 an16 cd16 ct16), sl16⟩) (c16 : PySem.W.codeIn K cd16 "_law_steps" = true) (k16 : PySem.W.keepIn K (.ref f_law_steps) = true)
    (a17 : PySem.W.nsIn K mainGlobals "_law_line" = some (some (.ref f_law_line)))
    (l17 : K.lookup f_law_line = some ⟨oc17, od17, .func (PySem.W.fnOf "_law_line" "_law_line" (defArgs s_law_line) (defBody s_law_line) (defScope s_law_line) .none kV17 dc17 pm17 an17 cd17 ct17), sl17⟩) (c17 : PySem.W.codeIn K cd17 "_law_line" = true) (k17 : PySem.W.keepIn K (.ref f_law_line) = true)
    (a18 : PySem.W.nsIn K mainGlobals "run" = some (some (.ref f_run)))
    (l18 : K.lookup f_run = some ⟨oc18, od18, .func (PySem.W.fnOf "run" "run" (defArgs s_run) (defBody s_run) (defScope s_run) .none kV18 dc18 pm18 an18 cd18 ct18), sl18⟩) (c18 : PySem.W.codeIn K cd18 "run" = true) (k18 : PySem.W.keepIn K (.ref f_run) = true)
    (a19 : PySem.W.nsIn K mainGlobals "blocks" = some (some (.ref f_blocks)))
    (l19 : K.lookup f_blocks = some ⟨oc19, od19, .func (PySem.W.fnOf "blocks" "blocks" (defArgs s_blocks) (defBody s_blocks) (defScope s_blocks) .none kV19 dc19 pm19 an19 cd19 ct19), sl19⟩) (c19 : PySem.W.codeIn K cd19 "blocks" = true) (k19 : PySem.W.keepIn K (.ref f_blocks) = true)
    (a20 : PySem.W.nsIn K mainGlobals "count_unchanged" = some (some (.ref f_count_unchanged)))
    (l20 : K.lookup f_count_unchanged = some ⟨oc20, od20, .func (PySem.W.fnOf "count_unchanged" "count_unchanged" (defArgs s_count_unchanged) (defBody s_count_unchanged) (defScope s_count_unchanged) .none kV20 dc20 pm20 an20 cd20 ct20), sl20⟩) (c20 : PySem.W.codeIn K cd20 "count_unchanged" = true) (k20 : PySem.W.keepIn K (.ref f_count_unchanged) = true)
    (a21 : PySem.W.nsIn K mainGlobals "is_result" = some (some (.ref f_is_result)))
    (l21 : K.lookup f_is_result = some ⟨oc21, od21, .func (PySem.W.fnOf "is_result" "is_result" (defArgs s_is_result) (defBody s_is_result) (defScope s_is_result) .none kV21 dc21 pm21 an21 cd21 ct21), sl21⟩) (c21 : PySem.W.codeIn K cd21 "is_result" = true) (k21 : PySem.W.keepIn K (.ref f_is_result) = true)
    (a22 : PySem.W.nsIn K mainGlobals "_law_changed_right" = some (some (.ref f_law_changed_right)))
    (l22 : K.lookup f_law_changed_right = some ⟨oc22, od22, .func (PySem.W.fnOf "_law_changed_right" "_law_changed_right" (defArgs s_law_changed_right) (defBody s_law_changed_right) (defScope s_law_changed_right) .none kV22 dc22 pm22 an22 cd22 ct22), sl22⟩) (c22 : PySem.W.codeIn K cd22 "_law_changed_right" = true) (k22 : PySem.W.keepIn K (.ref f_law_changed_right) = true)
    (a23 : PySem.W.nsIn K mainGlobals "nth_unchanged" = some (some (.ref f_nth_unchanged)))
    (l23 : K.lookup f_nth_unchanged = some ⟨oc23, od23, .func (PySem.W.fnOf "nth_unchanged" "nth_unchanged" (defArgs s_nth_unchanged) (defBody s_nth_unchanged) (defScope s_nth_unchanged) .none kV23 dc23 pm23 an23 cd23 ct23), sl23⟩) (c23 : PySem.W.codeIn K cd23 "nth_unchanged" = true) (k23 : PySem.W.keepIn K (.ref f_nth_unchanged) = true)
    (a24 : PySem.W.nsIn K mainGlobals "_law_right" = some (some (.ref f_law_right)))
    (l24 : K.lookup f_law_right = some ⟨oc24, od24, .func (PySem.W.fnOf "_law_right" "_law_right" (defArgs s_law_right) (defBody s_law_right) (defScope s_law_right) .none kV24 dc24 pm24 an24 cd24 ct24), sl24⟩) (c24 : PySem.W.codeIn K cd24 "_law_right" = true) (k24 : PySem.W.keepIn K (.ref f_law_right) = true)
    (a25 : PySem.W.nsIn K mainGlobals "law" = some (some (.ref f_law)))
    (l25 : K.lookup f_law = some ⟨oc25, od25, .func (PySem.W.fnOf "law" "law" (defArgs s_law) (defBody s_law) (defScope s_law) .none kV25 dc25 pm25 an25 cd25 ct25), sl25⟩) (c25 : PySem.W.codeIn K cd25 "law" = true) (k25 : PySem.W.keepIn K (.ref f_law) = true)
    (z_abs : PySem.W.nsIn K mainGlobals "abs" = some none) (z_divmod : PySem.W.nsIn K mainGlobals "divmod" = some none) (z_enumerate : PySem.W.nsIn K mainGlobals "enumerate" = some none) (z_int : PySem.W.nsIn K mainGlobals "int" = some none) (z_len : PySem.W.nsIn K mainGlobals "len" = some none) (z_list : PySem.W.nsIn K mainGlobals "list" = some none) (z_max : PySem.W.nsIn K mainGlobals "max" = some none) (z_min : PySem.W.nsIn K mainGlobals "min" = some none) (z_range : PySem.W.nsIn K mainGlobals "range" = some none) (z_repr : PySem.W.nsIn K mainGlobals "repr" = some none) (z_reversed : PySem.W.nsIn K mainGlobals "reversed" = some none) (z_set : PySem.W.nsIn K mainGlobals "set" = some none) (z_sorted : PySem.W.nsIn K mainGlobals "sorted" = some none) (gcomb : PySem.W.nsIn K mainGlobals "comb" = some (some (.builtin "math.comb"))) :
    ∃ fd : FuncData, (∀ (s : Shared) (v : Value), BindsTo s fd ⟨[v], []⟩ [("script", v)]) ∧ ∀ base : Heap, K.In base → base.Ns mainGlobals mg → FnG l.prog w K mg base CX0 6 fa fd ["script"] (sp_law K) := by
  have e := hfa.symm.trans (PySem.W.mg_of X G a25)
  cases e
  have F0 := fun_mk (st := s_check_size) l0 c0 k0
  have b0 := F0.binds (ps := ["size"]) fun _ _ _ _ _ _ us hl => match us, hl with | [_], _ => rfl
  have F1 := fun_mk (st := s_check_script) l1 c1 k1
  have b1 := F1.binds (ps := ["size", "commands"]) fun _ _ _ _ _ _ us hl => match us, hl with | [_, _], _ => rfl
  have F2 := fun_mk (st := s_check_arrangement) l2 c2 k2
  have b2 := F2.binds (ps := ["row"]) fun _ _ _ _ _ _ us hl => match us, hl with | [_], _ => rfl
  have F3 := fun_mk (st := s_sort_stretches) l3 c3 k3
  have b3 := F3.binds (ps := ["row", "commands"]) fun _ _ _ _ _ _ us hl => match us, hl with | [_, _], _ => rfl
  have F4 := fun_mk (st := s_linked_blocks) l4 c4 k4
  have b4 := F4.binds (ps := ["size", "commands"]) fun _ _ _ _ _ _ us hl => match us, hl with | [_, _], _ => rfl
  have F5 := fun_mk (st := s_nth_choice) l5 c5 k5
  have b5 := F5.binds (ps := ["values", "length", "number"]) fun _ _ _ _ _ _ us hl => match us, hl with | [_, _, _], _ => rfl
  have F6 := fun_mk (st := s_choice_number) l6 c6 k6
  have b6 := F6.binds (ps := ["values", "chosen"]) fun _ _ _ _ _ _ us hl => match us, hl with | [_, _], _ => rfl
  have F7 := fun_mk (st := s_law_pool) l7 c7 k7
  have b7 := F7.binds (ps := ["script", "at"]) fun _ _ _ _ _ _ us hl => match us, hl with | [_, _], _ => rfl
  have F8 := fun_mk (st := s_law_draw) l8 c8 k8
  have b8 := F8.binds (ps := ["pool", "many"]) fun _ _ _ _ _ _ us hl => match us, hl with | [_, _], _ => rfl
  have F9 := fun_mk (st := s_law_blocks) l9 c9 k9
  have b9 := F9.binds (ps := ["wide", "steps_here"]) fun _ _ _ _ _ _ us hl => match us, hl with | [_, _], _ => rfl
  have F10 := fun_mk (st := s_law_rising) l10 c10 k10
  have b10 := F10.binds (ps := ["line_here", "parts"]) fun _ _ _ _ _ _ us hl => match us, hl with | [_, _], _ => rfl
  have F11 := fun_mk (st := s_law_factorial) l11 c11 k11
  have b11 := F11.binds (ps := ["many"]) fun _ _ _ _ _ _ us hl => match us, hl with | [_], _ => rfl
  have F12 := fun_mk (st := s_check_sized_script) l12 c12 k12
  have b12 := F12.binds (ps := ["size", "commands"]) fun _ _ _ _ _ _ us hl => match us, hl with | [_, _], _ => rfl
  have F13 := fun_mk (st := s_block_lengths) l13 c13 k13
  have b13 := F13.binds (ps := ["size", "commands"]) fun _ _ _ _ _ _ us hl => match us, hl with | [_, _], _ => rfl
  have F14 := fun_mk (st := s_unchanged_number) l14 c14 k14
  have b14 := F14.binds (ps := ["commands", "row"]) fun _ _ _ _ _ _ us hl => match us, hl with | [_, _], _ => rfl
  have F15 := fun_mk (st := s_greatest_before) l15 c15 k15
  have b15 := F15.binds (ps := ["commands", "row"]) fun _ _ _ _ _ _ us hl => match us, hl with | [_, _], _ => rfl
  have F16 := fun_mk (st := s_law_steps) l16 c16 k16
  have b16 := F16.binds (ps := ["pool", "wide", "most"]) fun _ _ _ _ _ _ us hl => match us, hl with | [_, _, _], _ => rfl
  have F17 := fun_mk (st := s_law_line) l17 c17 k17
  have b17 := F17.binds (ps := ["pool", "wide"]) fun _ _ _ _ _ _ us hl => match us, hl with | [_, _], _ => rfl
  have F18 := fun_mk (st := s_run) l18 c18 k18
  have b18 := F18.binds (ps := ["row", "commands"]) fun _ _ _ _ _ _ us hl => match us, hl with | [_, _], _ => rfl
  have F19 := fun_mk (st := s_blocks) l19 c19 k19
  have b19 := F19.binds (ps := ["size", "commands"]) fun _ _ _ _ _ _ us hl => match us, hl with | [_, _], _ => rfl
  have F20 := fun_mk (st := s_count_unchanged) l20 c20 k20
  have b20 := F20.binds (ps := ["size", "commands"]) fun _ _ _ _ _ _ us hl => match us, hl with | [_, _], _ => rfl
  have F21 := fun_mk (st := s_is_result) l21 c21 k21
  have b21 := F21.binds (ps := ["row", "commands"]) fun _ _ _ _ _ _ us hl => match us, hl with | [_, _], _ => rfl
  have F22 := fun_mk (st := s_law_changed_right) l22 c22 k22
  have b22 := F22.binds (ps := ["pool", "steps_here", "parts", "lines_here"]) fun _ _ _ _ _ _ us hl => match us, hl with | [_, _, _, _], _ => rfl
  have F23 := fun_mk (st := s_nth_unchanged) l23 c23 k23
  have b23 := F23.binds (ps := ["size", "commands", "number"]) fun _ _ _ _ _ _ us hl => match us, hl with | [_, _, _], _ => rfl
  have F24 := fun_mk (st := s_law_right) l24 c24 k24
  have b24 := F24.binds (ps := ["pool", "wide"]) fun _ _ _ _ _ _ us hl => match us, hl with | [_, _], _ => rfl
  have F25 := fun_mk (st := s_law) l25 c25 k25
  have b25 := F25.binds (ps := ["script"]) fun _ _ _ _ _ _ us hl => match us, hl with | [_], _ => rfl
  let T : Txt K mg := { check_size_a := f_check_size, check_size_d := _, check_size_F := F0, check_size_b := b0, check_size_g := PySem.W.mg_of X G a0, check_script_a := f_check_script, check_script_d := _, check_script_F := F1, check_script_b := b1, check_script_g := PySem.W.mg_of X G a1, check_arrangement_a := f_check_arrangement, check_arrangement_d := _, check_arrangement_F := F2, check_arrangement_b := b2, check_arrangement_g := PySem.W.mg_of X G a2, sort_stretches_a := f_sort_stretches, sort_stretches_d := _, sort_stretches_F := F3, sort_stretches_b := b3, sort_stretches_g := PySem.W.mg_of X G a3, linked_blocks_a := f_linked_blocks, linked_blocks_d := _, linked_blocks_F := F4, linked_blocks_b := b4, linked_blocks_g := PySem.W.mg_of X G a4, nth_choice_a := f_nth_choice, nth_choice_d := _, nth_choice_F := F5, nth_choice_b := b5, nth_choice_g := PySem.W.mg_of X G a5, choice_number_a := f_choice_number, choice_number_d := _, choice_number_F := F6, choice_number_b := b6, choice_number_g := PySem.W.mg_of X G a6, law_pool_a := f_law_pool, law_pool_d := _, law_pool_F := F7, law_pool_b := b7, law_pool_g := PySem.W.mg_of X G a7, law_draw_a := f_law_draw, law_draw_d := _, law_draw_F := F8, law_draw_b := b8, law_draw_g := PySem.W.mg_of X G a8, law_blocks_a := f_law_blocks, law_blocks_d := _, law_blocks_F := F9, law_blocks_b := b9, law_blocks_g := PySem.W.mg_of X G a9, law_rising_a := f_law_rising, law_rising_d := _, law_rising_F := F10, law_rising_b := b10, law_rising_g := PySem.W.mg_of X G a10, law_factorial_a := f_law_factorial, law_factorial_d := _, law_factorial_F := F11, law_factorial_b := b11, law_factorial_g := PySem.W.mg_of X G a11, check_sized_script_a := f_check_sized_script, check_sized_script_d := _, check_sized_script_F := F12, check_sized_script_b := b12, check_sized_script_g := PySem.W.mg_of X G a12, block_lengths_a := f_block_lengths, block_lengths_d := _, block_lengths_F := F13, block_lengths_b := b13, block_lengths_g := PySem.W.mg_of X G a13, unchanged_number_a := f_unchanged_number, unchanged_number_d := _, unchanged_number_F := F14, unchanged_number_b := b14, unchanged_number_g := PySem.W.mg_of X G a14, greatest_before_a := f_greatest_before, greatest_before_d := _, greatest_before_F := F15, greatest_before_b := b15, greatest_before_g := PySem.W.mg_of X G a15, law_steps_a := f_law_steps, law_steps_d := _, law_steps_F := F16, law_steps_b := b16, law_steps_g := PySem.W.mg_of X G a16, law_line_a := f_law_line, law_line_d := _, law_line_F := F17, law_line_b := b17, law_line_g := PySem.W.mg_of X G a17, run_a := f_run, run_d := _, run_F := F18, run_b := b18, run_g := PySem.W.mg_of X G a18, blocks_a := f_blocks, blocks_d := _, blocks_F := F19, blocks_b := b19, blocks_g := PySem.W.mg_of X G a19, count_unchanged_a := f_count_unchanged, count_unchanged_d := _, count_unchanged_F := F20, count_unchanged_b := b20, count_unchanged_g := PySem.W.mg_of X G a20, is_result_a := f_is_result, is_result_d := _, is_result_F := F21, is_result_b := b21, is_result_g := PySem.W.mg_of X G a21, law_changed_right_a := f_law_changed_right, law_changed_right_d := _, law_changed_right_F := F22, law_changed_right_b := b22, law_changed_right_g := PySem.W.mg_of X G a22, nth_unchanged_a := f_nth_unchanged, nth_unchanged_d := _, nth_unchanged_F := F23, nth_unchanged_b := b23, nth_unchanged_g := PySem.W.mg_of X G a23, law_right_a := f_law_right, law_right_d := _, law_right_F := F24, law_right_b := b24, law_right_g := PySem.W.mg_of X G a24, law_a := fa, law_d := _, law_F := F25, law_b := b25, law_g := PySem.W.mg_of X G a25, m_abs := PySem.W.mg_none_of X G z_abs, m_divmod := PySem.W.mg_none_of X G z_divmod, m_enumerate := PySem.W.mg_none_of X G z_enumerate, m_int := PySem.W.mg_none_of X G z_int, m_len := PySem.W.mg_none_of X G z_len, m_list := PySem.W.mg_none_of X G z_list, m_max := PySem.W.mg_none_of X G z_max, m_min := PySem.W.mg_none_of X G z_min, m_range := PySem.W.mg_none_of X G z_range, m_repr := PySem.W.mg_none_of X G z_repr, m_reversed := PySem.W.mg_none_of X G z_reversed, m_set := PySem.W.mg_none_of X G z_set, m_sorted := PySem.W.mg_none_of X G z_sorted, g_comb := PySem.W.mg_of X G gcomb }
  exact ⟨PySem.W.fnOf "law" "law" (defArgs s_law) (defBody s_law) (defScope s_law) .none kV25 dc25 pm25 an25 cd25 ct25, fun s v => .of_eq rfl, fun base _ _ => ok_law T⟩
end L34
open PySem PySem.W PyProof.Rows
set_option maxHeartbeats 0 in
theorem PySem.Challenge.cw_sortstretches_k34_whole_many_unchanged_r_holds : PySem.Challenge.rw_sortstretches_k34_whole_many_unchanged_r.Holds := by
  w_on; o_law; k_head; (case hw => w_witness2)
  k_fill
  refine Xk.walkG (l := PySem.Challenge.rw_sortstretches_k34_whole_many_unchanged_r) (m := 63) (n := 6) (x := "script") (CX := L2.CX0) (sp := L34.sp_law) rfl (by decide) rfl ⟨rfl, by decide, by decide⟩ (fun w h Y => PySem.W.kIn_of Y) ?F (fun K H a ns hl hO hS => ⟨a, ns, rfl, hS, hl, fun _ => rfl⟩) (fun _ _ _ _ h => h)
  case F =>
    intro w mg fa h KX G hmg
    refine' L34.all_mk KX G hmg ?a0 ?l0 ?c0 ?k0 ?a1 ?l1 ?c1 ?k1 ?a2 ?l2 ?c2 ?k2 ?a3 ?l3 ?c3 ?k3 ?a4 ?l4 ?c4 ?k4 ?a5 ?l5 ?c5 ?k5 ?a6 ?l6 ?c6 ?k6 ?a7 ?l7 ?c7 ?k7 ?a8 ?l8 ?c8 ?k8 ?a9 ?l9 ?c9 ?k9 ?a10 ?l10 ?c10 ?k10 ?a11 ?l11 ?c11 ?k11 ?a12 ?l12 ?c12 ?k12 ?a13 ?l13 ?c13 ?k13 ?a14 ?l14 ?c14 ?k14 ?a15 ?l15 ?c15 ?k15 ?a16 ?l16 ?c16 ?k16 ?a17 ?l17 ?c17 ?k17 ?a18 ?l18 ?c18 ?k18 ?a19 ?l19 ?c19 ?k19 ?a20 ?l20 ?c20 ?k20 ?a21 ?l21 ?c21 ?k21 ?a22 ?l22 ?c22 ?k22 ?a23 ?l23 ?c23 ?k23 ?a24 ?l24 ?c24 ?k24 ?a25 ?l25 ?c25 ?k25 ?z_abs ?z_divmod ?z_enumerate ?z_int ?z_len ?z_list ?z_max ?z_min ?z_range ?z_repr ?z_reversed ?z_set ?z_sorted ?gcomb
    (case a0 => k_is); (case l0 => k_is); (case c0 => k_is); (case k0 => k_is); (case a1 => k_is); (case l1 => k_is); (case c1 => k_is); (case k1 => k_is); (case a2 => k_is); (case l2 => k_is); (case c2 => k_is); (case k2 => k_is); (case a3 => k_is); (case l3 => k_is); (case c3 => k_is); (case k3 => k_is); (case a4 => k_is); (case l4 => k_is); (case c4 => k_is); (case k4 => k_is); (case a5 => k_is); (case l5 => k_is); (case c5 => k_is); (case k5 => k_is); (case a6 => k_is); (case l6 => k_is); (case c6 => k_is); (case k6 => k_is); (case a7 => k_is); (case l7 => k_is); (case c7 => k_is); (case k7 => k_is); (case a8 => k_is); (case l8 => k_is); (case c8 => k_is); (case k8 => k_is); (case a9 => k_is); (case l9 => k_is); (case c9 => k_is); (case k9 => k_is); (case a10 => k_is); (case l10 => k_is); (case c10 => k_is); (case k10 => k_is); (case a11 => k_is); (case l11 => k_is); (case c11 => k_is); (case k11 => k_is); (case a12 => k_is); (case l12 => k_is); (case c12 => k_is); (case k12 => k_is); (case a13 => k_is); (case l13 => k_is); (case c13 => k_is); (case k13 => k_is); (case a14 => k_is); (case l14 => k_is); (case c14 => k_is); (case k14 => k_is); (case a15 => k_is); (case l15 => k_is); (case c15 => k_is); (case k15 => k_is); (case a16 => k_is); (case l16 => k_is); (case c16 => k_is); (case k16 => k_is); (case a17 => k_is); (case l17 => k_is); (case c17 => k_is); (case k17 => k_is); (case a18 => k_is); (case l18 => k_is); (case c18 => k_is); (case k18 => k_is); (case a19 => k_is); (case l19 => k_is); (case c19 => k_is); (case k19 => k_is); (case a20 => k_is); (case l20 => k_is); (case c20 => k_is); (case k20 => k_is); (case a21 => k_is); (case l21 => k_is); (case c21 => k_is); (case k21 => k_is); (case a22 => k_is); (case l22 => k_is); (case c22 => k_is); (case k22 => k_is); (case a23 => k_is); (case l23 => k_is); (case c23 => k_is); (case k23 => k_is); (case a24 => k_is); (case l24 => k_is); (case c24 => k_is); (case k24 => k_is); (case a25 => k_is); (case l25 => k_is); (case c25 => k_is); (case k25 => k_is); (case z_abs => k_is); (case z_divmod => k_is); (case z_enumerate => k_is); (case z_int => k_is); (case z_len => k_is); (case z_list => k_is); (case z_max => k_is); (case z_min => k_is); (case z_range => k_is); (case z_repr => k_is); (case z_reversed => k_is); (case z_set => k_is); (case z_sorted => k_is); (case gcomb => k_is)
